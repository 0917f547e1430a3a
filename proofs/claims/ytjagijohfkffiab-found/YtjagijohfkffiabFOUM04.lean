import Derived.Test.YtjagijohfkffiabFOUM03
import Derived.Outline
import Derived.Deep.RegionWith

/- The walks of sweep and fill. -/
namespace Go.Proofs.Ytjagijohfkffiab
open Go.RowKit
set_option linter.unusedVariables false

def flatP (ps : List (Nat × Nat)) : List Value := ps.flatMap fun p => [.int .i64 p.1, .int .i64 p.2]
theorem flatP_snoc (ps : List (Nat × Nat)) (p : Nat × Nat) : flatP (ps ++ [p]) = flatP ps ++ [.int .i64 p.1, .int .i64 p.2] := by simp [flatP]
theorem flatP_get (ps : List (Nat × Nat)) (i : Nat) (hi : i < ps.length) : (flatP ps)[i * 2]? = some (.int .i64 (letAt ps i)) ∧ (flatP ps)[i * 2 + 1]? = some (.int .i64 (heldAt ps i)) := by
  induction ps generalizing i with
  | nil => simp at hi
  | cons p ps ih =>
    cases i with
    | zero => simp [flatP, letAt, heldAt]
    | succ i =>
      have := ih i (by simpa using hi)
      rw [letAt_cons, heldAt_cons, show flatP (p :: ps) = [.int .i64 p.1, .int .i64 p.2] ++ flatP ps by simp [flatP]]
      rw [List.getElem?_append_right (by simp; omega), List.getElem?_append_right (by simp; omega)]
      simpa [show (i + 1) * 2 - 2 = i * 2 by omega, show (i + 1) * 2 + 1 - 2 = i * 2 + 1 by omega] using this
theorem flatP_set (ps : List (Nat × Nat)) (i : Nat) (hi : i < ps.length) (x S : Nat) : ((flatP ps).set (i * 2) (.int .i64 x)).set (i * 2 + 1) (.int .i64 S) = flatP (ps.set i (x, S)) := by
  induction ps generalizing i with
  | nil => simp at hi
  | cons p ps ih =>
    cases i with
    | zero => simp [flatP]
    | succ i =>
      have := ih i (by simpa using hi)
      rw [show flatP (p :: ps) = .int .i64 p.1 :: .int .i64 p.2 :: flatP ps by simp [flatP], show (i + 1) * 2 = i * 2 + 1 + 1 by omega]
      simp only [List.set_cons_succ]
      rw [this]
      simp [flatP]

/-- The table at block T. -/
structure Tb (w : World) (T back : Nat) (ps : List (Nat × Nat)) : Prop where
  c0 : ∃ ao cap, w.cell? ⟨T, 0, none⟩ = some (.slice ao ps.length cap) ∧ w.ownsRow (T + 1) 145 2 (.slice ao ps.length cap) ps.length (flatP ps)
  c1 : w.cell? ⟨T, 1, none⟩ = some (.int .i64 back)
  f0 : w.frozen? ⟨T, 0, none⟩ = false

/-- Blocks of cells of other types than the places' stay. -/
def KpT (w w' : World) : Prop := ∀ (q : Nat) (c : Array Value) (Ty : TypeId) (z : Nat × Nat), w.heap[q]? = some (.cells c Ty z) → Ty ≠ 145 → w'.heap[q]? = some (.cells c Ty z)

theorem KpT.refl (w : World) : KpT w w := fun _ _ _ _ h _ => h
theorem KpT.trans {a b c : World} (h : KpT a b) (k : KpT b c) : KpT a c := fun q x T z h1 h2 => k q x T z (h q x T z h1 h2) h2
theorem KpT.of_below {w w' : World} (h : Below w.heap.size w w') : KpT w w' := fun q c Ty z h1 _ => by
  rw [h.block q (Array.getElem?_eq_some_iff.1 h1).1]; exact h1
theorem KpT.drewN {a w : World} (h : KpT a w) (n : Nat) : KpT a (w.drewN n) := h

theorem Tb.lt {w : World} {T back : Nat} {ps : List (Nat × Nat)} (h : Tb w T back ps) : T < w.heap.size := World.block_lt_of_cell? w ⟨T, 1, none⟩ h.c1

theorem Tb.row {w : World} {T back : Nat} {ps : List (Nat × Nat)} (h : Tb w T back ps) (hn : 0 < ps.length) : ∃ g cap, w.cell? ⟨T, 0, none⟩ = some (.slice (some ⟨g, 0, none⟩) ps.length cap) ∧ w.ownsRow (T + 1) 145 2 (.slice (some ⟨g, 0, none⟩) ps.length cap) ps.length (flatP ps) ∧ T < g ∧ g < w.heap.size ∧ ps.length ≤ cap := by
  obtain ⟨ao, cap, c, own⟩ := h.c0
  rcases own.2 with ⟨e, h0⟩ | ⟨g, cap', cur, e, hb, hh, hc, _⟩
  · omega
  · cases e
    exact ⟨g, cap, c, own, by omega, (Array.getElem?_eq_some_iff.1 hh).1, hc⟩

/-- The table stays behind whatever leaves all old blocks. -/
theorem Tb.below {w w' : World} {T back : Nat} {ps : List (Nat × Nat)} (h : Tb w T back ps) (hb : Below w.heap.size w w') : Tb w' T back ps := by
  obtain ⟨ao, cap, c, own⟩ := h.c0
  refine ⟨⟨ao, cap, ?_, ?_⟩, ?_, ?_⟩
  · rw [hb.cell h.lt]; exact c
  · exact own.kept (row := none) ⟨hb.os, hb.tape, hb.output, hb.size, fun k hk _ => hb.block k hk⟩ (by cases hv : (Value.slice ao ps.length cap).ownBlock <;> simp)
  · rw [hb.cell h.lt]; exact h.c1
  · rw [hb.frozen h.lt]; exact h.f0

theorem KpT.set {a w : World} (h : KpT a w) {P : Nat} (hP : a.heap.size ≤ P ∨ ∃ c z, a.heap[P]? = some (.cells c 145 z)) (j : Nat) (v : Value) : KpT a (w.setCell ⟨P, j, none⟩ v) := fun q c Ty z h1 h2 => by
  have hq := (Array.getElem?_eq_some_iff.1 h1).1
  have : q ≠ P := by
    rcases hP with hP | ⟨c', z', hP⟩
    · omega
    · intro e
      subst e
      rw [h1] at hP
      simp at hP
      exact h2 hP.2.1
  rw [Below.heap_setCell _ _ _ _ this]
  exact h q c Ty z h1 h2

/-- A place is written. -/
theorem tb_put {w : World} {T back i g cap n x S : Nat} {ps : List (Nat × Nat)} (ht : Tb w T back ps) (hi : i < ps.length) (hn : ps.length = n) (hc : w.cell? ⟨T, 0, none⟩ = some (.slice (some ⟨g, 0, none⟩) n cap)) :
    Tb ((w.setCell ⟨g, i * 2, none⟩ (.int .i64 x)).setCell ⟨g, i * 2 + 1, none⟩ (.int .i64 S)) T back (ps.set i (x, S)) ∧ KpT w ((w.setCell ⟨g, i * 2, none⟩ (.int .i64 x)).setCell ⟨g, i * 2 + 1, none⟩ (.int .i64 S)) ∧ Below (T + 1) w ((w.setCell ⟨g, i * 2, none⟩ (.int .i64 x)).setCell ⟨g, i * 2 + 1, none⟩ (.int .i64 S)) := by
  subst hn
  obtain ⟨g', cap', c, own, hTg, _, _⟩ := ht.row (by omega)
  rw [hc] at c
  cases c
  have o1 := (own.stored (i * 2) (.int .i64 x)).1
  have o2 := (o1.stored (i * 2 + 1) (.int .i64 S)).1
  rw [flatP_set ps i hi] at o2
  have ne : ∀ j k, (⟨g, j, none⟩ : Addr) ≠ ⟨T, k, none⟩ := fun j k e => by have := congrArg Addr.block e; simp at this; omega
  have hrow : ∃ c z, w.heap[g]? = some (.cells c 145 z) := by
    rcases own.2 with ⟨e, _⟩ | ⟨g', cap', cur, e, _, hh, _⟩
    · cases e
    · cases e; exact ⟨_, _, hh⟩
  refine ⟨⟨⟨some ⟨g, 0, none⟩, cap, ?_, ?_⟩, ?_, ?_⟩, ?_, ?_⟩
  · rw [World.cell?_setCell_other _ _ _ _ (ne _ _), World.cell?_setCell_other _ _ _ _ (ne _ _), List.length_set]; exact hc
  · rw [List.length_set]; exact o2
  · rw [World.cell?_setCell_other _ _ _ _ (ne _ _), World.cell?_setCell_other _ _ _ _ (ne _ _)]; exact ht.c1
  · rw [World.frozen?_setCell, World.frozen?_setCell]; exact ht.f0
  · exact ((KpT.refl w).set (Or.inr hrow) _ _).set (Or.inr hrow) _ _
  · exact ((Below.refl _ _).setCell (p := ⟨g, i * 2, none⟩) hTg _).setCell (p := ⟨g, i * 2 + 1, none⟩) hTg _

theorem Tb.drewN {w : World} {T back : Nat} {ps : List (Nat × Nat)} (h : Tb w T back ps) (m : Nat) : Tb (w.drewN m) T back ps := ⟨h.c0, h.c1, h.f0⟩

theorem set_sweep (n : Nd) (k N : Nat) (ps : List (Nat × Nat)) (i : Nat) (hi : i < ps.length) :
    (ps.take (i + 1) ++ (sweepL n k N (ps.drop (i + 1))).1).set i (letAt ps i, newHeld n k (letAt ps i, heldAt ps i) (sweepL n k N (ps.drop (i + 1))).2) = ps.take i ++ (sweepL n k N (ps.drop i)).1 := by
  have e : ps.drop i = (letAt ps i, heldAt ps i) :: ps.drop (i + 1) := by
    have h1 : letAt ps i = ps[i].1 := by simp [letAt, List.getD, List.getElem?_eq_getElem hi]
    have h2 : heldAt ps i = ps[i].2 := by simp [heldAt, List.getD, List.getElem?_eq_getElem hi]
    rw [h1, h2]
    exact List.drop_eq_getElem_cons hi
  rw [e]
  simp only [sweepL]
  rw [List.take_succ_eq_append_getElem hi, List.append_assoc, List.set_append_right _ _ (by simp; omega)]
  simp [show min i ps.length = i by omega]
theorem head_sweep (n : Nd) (k N : Nat) (ps : List (Nat × Nat)) (i : Nat) (hi : i < ps.length) : (sweepL n k N (ps.drop i)).2 = newHeld n k (letAt ps i, heldAt ps i) (sweepL n k N (ps.drop (i + 1))).2 := by
  have e : ps.drop i = (letAt ps i, heldAt ps i) :: ps.drop (i + 1) := by
    have h1 : letAt ps i = ps[i].1 := by simp [letAt, List.getD, List.getElem?_eq_getElem hi]
    have h2 : heldAt ps i = ps[i].2 := by simp [heldAt, List.getD, List.getElem?_eq_getElem hi]
    rw [h1, h2]
    exact List.drop_eq_getElem_cons hi
  rw [e]; simp [sweepL]
theorem at_take (n : Nd) (k N : Nat) (ps : List (Nat × Nat)) (i : Nat) (hi : i < ps.length) : letAt (ps.take (i + 1) ++ (sweepL n k N (ps.drop (i + 1))).1) i = letAt ps i ∧ heldAt (ps.take (i + 1) ++ (sweepL n k N (ps.drop (i + 1))).1) i = heldAt ps i := by
  simp only [letAt, heldAt, List.getD]
  rw [List.getElem?_append_left (by simp; omega), List.getElem?_take_of_lt (by omega)]
  exact ⟨rfl, rfl⟩
theorem cur_len (n : Nd) (k N : Nat) (ps : List (Nat × Nat)) (j : Nat) (hj : j ≤ ps.length) : (ps.take j ++ (sweepL n k N (ps.drop j)).1).length = ps.length := by
  rw [List.length_append, sweepL_len]; simp; omega
theorem head_lt (n : Nd) (k N : Nat) (ps : List (Nat × Nat)) (hk : k < 8) (hf : Fine ps) (hN : N < 256) (j : Nat) : (sweepL n k N (ps.drop j)).2 < 256 := by
  rw [sweepL_head]
  split
  · have : Fine (ps.drop j) := fun i => by have := hf (j + i); simpa [letAt, heldAt, List.getD, List.getElem?_drop] using this
    exact (sweepL_fine hk this 0).2
  · exact hN

set_option maxHeartbeats 1600000 in
theorem sweep_core (N T back k : Nat) (n : Nd) (ps : List (Nat × Nat)) (w : World) (hNe : heldAt ps back = N) (ht : Tb w T back ps) (hf : Fine ps) (hb : back < ps.length) (hlen : ps.length ≤ 80) (hk : k < 8) (hl : n.l < 8) (hr : n.r < 8) :
    Calls Try.prog 111 #[.pointer (some ⟨T, 0, none⟩), ndV n, .int .i64 k] w fun e w' => e = .returned (.tuple #[]) ∧ Tb w' T back (sweepL n k N ps).1 ∧ Below T w w' ∧ KpT w w' := by
  obtain ⟨g, cap, c0, own, hTg, hg, hcap⟩ := ht.row (by omega)
  have c1 := ht.c1
  have hT := ht.lt
  have hd : decide ((back : Int) < 0) = false := by simp
  have hd2 : decide ((ps.length : Int) ≤ (back : Int)) = false := by simp; omega
  have hd3 : decide (ps.length ≤ back) = false := by simp; omega
  have x1 := (own.cellAt (back * 2 + 1) (by omega)).trans (flatP_get ps back hb).2
  have hN := (hf back).2
  rw [hNe] at x1 hN
  clear hNe
  unfold ndV
  go_enter Try.func111, Try.ntmps111
  go_wp2
  go_quiet (fail)
  go_wp2
  go_quiet (fail)
  go_wp2
  clear hd hd2 hd3 x1 c0 c1 own
  go_loopw [6, 7] (fun nx i wr => ∃ j : Nat, j ≤ ps.length ∧ i = .int .i64 ((j : Int) - 1) ∧ nx = .int .i64 ((sweepL n k N (ps.drop j)).2 : Nat) ∧ Tb wr T back (ps.take j ++ (sweepL n k N (ps.drop j)).1) ∧ Below T w wr ∧ KpT w wr ∧ wr.heap[w.heap.size]? = some (.cells #[.int .u8 n.op, .int .i64 n.l, .int .i64 n.r] 124)) (fun _ i _ => (intOf i + 1).toNat)
  case atStart =>
    refine ⟨ps.length, Nat.le_refl _, rfl, by simp [sweepL], ?_, ?_, ?_, ?_⟩
    · rw [List.take_length, List.drop_length]
      simp only [sweepL, List.append_nil]
      exact (ht.below ((Below.refl _ _).alloc (Nat.le_refl _) _)).drewN _
    · exact below_drewN ((Below.refl _ _).alloc (by omega) _) _
    · exact (KpT.of_below ((Below.refl _ _).alloc (Nat.le_refl _) _)).drewN _
    · exact heap_alloc_new _ _
  case round =>
    obtain ⟨j, hj, rfl, rfl, htr, hbr, hkr, hbox⟩ := hrel
    cases j with
    | zero =>
      go_wp2
      go_end0
      refine ⟨rfl, ?_, hbr, hkr⟩
      simpa using htr
    | succ i =>
      have hcl := cur_len n k N ps (i + 1) hj
      obtain ⟨g1, cap1, d0, own1, hTg1, hg1, hcap1⟩ := htr.row (by omega)
      have ha := at_take n k N ps i (by omega)
      have y := flatP_get (ps.take (i + 1) ++ (sweepL n k N (ps.drop (i + 1))).1) i (by omega)
      rw [ha.1, ha.2] at y
      have y1 := (own1.cellAt (i * 2) (by omega)).trans y.1
      have y2 := (own1.cellAt (i * 2 + 1) (by omega)).trans y.2
      have z1 := own1.frozenAt (i * 2)
      have z2 := own1.frozenAt (i * 2 + 1)
      rw [hcl] at d0 hcap1
      have HA := hid (set_sweep n k N ps i (by omega))
      have HH := hid (head_sweep n k N ps i (by omega))
      have hM := head_lt n k N ps hk hf hN (i + 1)
      have hx := (hf i).1
      have hS := (hf i).2
      have htr2 := hid htr
      have HCL := hid hcl
      clear ha y own1 htr hcl
      generalize (sweepL n k N (ps.drop (i + 1))).2 = M at *
      obtain ⟨b0, b1, b2⟩ : wr.cell? ⟨w.heap.size, 0, none⟩ = some (.int .u8 n.op) ∧ wr.cell? ⟨w.heap.size, 1, none⟩ = some (.int .i64 n.l) ∧ wr.cell? ⟨w.heap.size, 2, none⟩ = some (.int .i64 n.r) := by
        refine ⟨?_, ?_, ?_⟩ <;> (rw [cell_of_row wr _ _ _ _ _ hbox]; rfl)
      have hlx := heap_lt hbox
      generalize letAt ps i = X at *
      generalize heldAt ps i = S at *
      have LW := fun W => law_any n k X S M W hl hr hk hx hS hM
      unfold ndV at LW
      have ei : (((i + 1 : Nat) : Int) - 1) = (i : Int) := by omega
      simp only [ei]
      clear ei
      go_wp2_with fail
      refine (LW _).mono ?_
      rintro e w2 ⟨rfl, hb2⟩
      have HNH : Hid (wth S k (lawB n.op X (S.testBit n.l) (S.testBit n.r) (M.testBit k) (M.testBit n.l)) = newHeld n k (X, S) M) := hid rfl
      clear LW
      generalize lawB n.op X (S.testBit n.l) (S.testBit n.r) (M.testBit k) (M.testBit n.l) = v at *
      have hw2 := hb2.size
      simp only [World.size_alloc] at hw2
      have h0 := (hb2.cell (p := ⟨wr.heap.size, 0, none⟩) (by simp)).trans (World.cell?_alloc_new wr _ _ 0)
      have h1 := (hb2.cell (p := ⟨wr.heap.size, 1, none⟩) (by simp)).trans (World.cell?_alloc_new wr _ _ 1)
      have q1 := (hb2.frozen (p := ⟨wr.heap.size, 1, none⟩) (by simp)).trans (World.frozen?_alloc_new wr _ _ 1)
      simp at h0 h1
      go_wp2_with fail
      refine (with_any S k v w2 hS hk).mono ?_
      rintro e w3 ⟨rfl, rfl⟩
      have hbw : Below wr.heap.size wr w3 := ((Below.refl _ _).alloc (Nat.le_refl _) _).trans (hb2.mono (by simp))
      have d2 := (hbw.cell (p := ⟨T, 0, none⟩) (by show T < wr.heap.size; omega)).trans d0
      have y3 := (hbw.cell (p := ⟨g1, i * 2, none⟩) hg1).trans y1
      have y4 := (hbw.cell (p := ⟨g1, i * 2 + 1, none⟩) hg1).trans y2
      have z3 := (hbw.frozen (p := ⟨g1, i * 2, none⟩) hg1).trans z1
      have z4 := (hbw.frozen (p := ⟨g1, i * 2 + 1, none⟩) hg1).trans z2
      have HBW := hid hbw
      have HBX := hid hbox
      clear hbox hbw hb2 d0 y1 y2 z1 z2 b0 b1 b2 hw2
      generalize wth S k v = S2 at *
      go_wp2_with fail
      go_region
      all_goals go_wp2_with fail
      all_goals go_roundw
      case rel =>
        have hbx : Below wr.heap.size wr (w3.setCell ⟨wr.heap.size, 1, none⟩ (.int .i64 S2)) := HBW.out.setCell (p := ⟨wr.heap.size, 1, none⟩) (Nat.le_refl _) _
        obtain ⟨t1, t2, t3⟩ := tb_put (i := i) (x := X) (S := S2) (htr2.out.below hbx) (by rw [HCL.out]; omega) HCL.out (cap := cap1) (g := g1) ((World.cell?_setCell_other _ _ _ _ (fun e => by have := congrArg Addr.block e; simp at this; omega)).trans d2)
        rw [HNH.out, HA.out, ← HNH.out] at t1
        have hk3 := hkr.trans ((KpT.of_below hbx).trans t2)
        refine ⟨i, by omega, rfl, by rw [HH.out, ← HNH.out], t1.drewN _, ?_, hk3, ?_⟩
        · exact below_drewN ((hbr.trans (hbx.mono (by omega))).trans (t3.mono (Nat.le_succ _))) _
        · exact (KpT.of_below hbx |>.trans t2) _ _ _ _ HBX.out (by decide)
      case measure => simp [intOf]

end Go.Proofs.Ytjagijohfkffiab

/- The walk of fill. -/
namespace Go.Proofs.Ytjagijohfkffiab
open Go.RowKit
set_option linter.unusedVariables false

theorem flatP_set1 (ps : List (Nat × Nat)) (i : Nat) (hi : i < ps.length) (S : Nat) : (flatP ps).set (i * 2 + 1) (.int .i64 S) = flatP (ps.set i (letAt ps i, S)) := by
  have h := flatP_set ps i hi (letAt ps i) S
  rw [← h]
  have e := (flatP_get ps i hi).1
  obtain ⟨hlt, e2⟩ := List.getElem?_eq_some_iff.1 e
  rw [show (flatP ps).set (i * 2) (.int .i64 (letAt ps i)) = flatP ps from by rw [← e2]; exact List.set_getElem_self hlt]

theorem sweep_any (T back k : Nat) (n : Nd) (ps : List (Nat × Nat)) (w : World) (ht : Tb w T back ps) (hf : Fine ps) (hb : back < ps.length) (hlen : ps.length ≤ 80) (hk : k < 8) (hl : n.l < 8) (hr : n.r < 8) :
    Calls Try.prog 111 #[.pointer (some ⟨T, 0, none⟩), .agg #[.int .u8 n.op, .int .i64 n.l, .int .i64 n.r], .int .i64 k] w fun e w' => e = .returned (.tuple #[]) ∧ Tb w' T back (sweepL n k (heldAt ps back) ps).1 ∧ Below T w w' ∧ KpT w w' :=
  sweep_core _ T back k n ps w rfl ht hf hb hlen hk hl hr

/-- What holds at a place is written. -/
theorem tb_put1 {w : World} {T back i g cap n S : Nat} {ps : List (Nat × Nat)} (ht : Tb w T back ps) (hi : i < ps.length) (hn : ps.length = n) (hc : w.cell? ⟨T, 0, none⟩ = some (.slice (some ⟨g, 0, none⟩) n cap)) :
    Tb (w.setCell ⟨g, i * 2 + 1, none⟩ (.int .i64 S)) T back (ps.set i (letAt ps i, S)) ∧ KpT w (w.setCell ⟨g, i * 2 + 1, none⟩ (.int .i64 S)) ∧ Below (T + 1) w (w.setCell ⟨g, i * 2 + 1, none⟩ (.int .i64 S)) := by
  subst hn
  obtain ⟨g', cap', c, own, hTg, _, _⟩ := ht.row (by omega)
  rw [hc] at c
  cases c
  have o2 := (own.stored (i * 2 + 1) (.int .i64 S)).1
  rw [flatP_set1 ps i hi] at o2
  have ne : ∀ j k, (⟨g, j, none⟩ : Addr) ≠ ⟨T, k, none⟩ := fun j k e => by have := congrArg Addr.block e; simp at this; omega
  have hrow : ∃ c z, w.heap[g]? = some (.cells c 145 z) := by
    rcases own.2 with ⟨e, _⟩ | ⟨g', cap', cur, e, _, hh, _⟩
    · cases e
    · cases e; exact ⟨_, _, hh⟩
  refine ⟨⟨⟨some ⟨g, 0, none⟩, cap, ?_, ?_⟩, ?_, ?_⟩, ?_, ?_⟩
  · rw [World.cell?_setCell_other _ _ _ _ (ne _ _), List.length_set]; exact hc
  · rw [List.length_set]; exact o2
  · rw [World.cell?_setCell_other _ _ _ _ (ne _ _)]; exact ht.c1
  · rw [World.frozen?_setCell]; exact ht.f0
  · exact (KpT.refl w).set (Or.inr hrow) _ _
  · exact (Below.refl _ _).setCell (p := ⟨g, i * 2 + 1, none⟩) hTg _

theorem start_step (n : Nd) (k : Nat) (ps : List (Nat × Nat)) (j : Nat) (hj : j < ps.length) :
    ((startL n k ps).take j ++ ps.drop j).set j (letAt ps j, wth (heldAt ps j) k (lastsB n.op)) = (startL n k ps).take (j + 1) ++ ps.drop (j + 1) := by
  have h1 : letAt ps j = ps[j].1 := by simp [letAt, List.getD, List.getElem?_eq_getElem hj]
  have h2 : heldAt ps j = ps[j].2 := by simp [heldAt, List.getD, List.getElem?_eq_getElem hj]
  have hl := startL_len n k ps
  rw [h1, h2, List.drop_eq_getElem_cons hj, List.take_succ_eq_append_getElem (by omega), List.append_assoc, List.set_append_right _ _ (by simp; omega)]
  simp [startL, show min j ps.length = j by omega]
  rw [List.drop_eq_getElem_cons hj]
  rfl
theorem start_cur (n : Nd) (k : Nat) (ps : List (Nat × Nat)) (j : Nat) (hj : j < ps.length) : letAt ((startL n k ps).take j ++ ps.drop j) j = letAt ps j ∧ heldAt ((startL n k ps).take j ++ ps.drop j) j = heldAt ps j := by
  have hl := startL_len n k ps
  simp only [letAt, heldAt, List.getD]
  rw [List.getElem?_append_right (by simp; omega)]
  simp [show min j ps.length = j by omega, hl]
theorem start_curlen (n : Nd) (k : Nat) (ps : List (Nat × Nat)) (j : Nat) (hj : j ≤ ps.length) : ((startL n k ps).take j ++ ps.drop j).length = ps.length := by
  have hl := startL_len n k ps
  simp; omega

set_option maxHeartbeats 1600000 in
theorem fill_any (T back k : Nat) (n : Nd) (ps : List (Nat × Nat)) (w : World) (ht : Tb w T back ps) (hf : Fine ps) (hb : back < ps.length) (hlen : ps.length ≤ 80) (hk : k < 8) (hl : n.l < 8) (hr : n.r < 8) :
    Calls Try.prog 76 #[.pointer (some ⟨T, 0, none⟩), .agg #[.int .u8 n.op, .int .i64 n.l, .int .i64 n.r], .int .i64 k] w fun e w' => e = .returned (.tuple #[]) ∧ Tb w' T back (fillL n k back ps) ∧ Below T w w' ∧ KpT w w' := by
  have hT := ht.lt
  have LA := fun W => lasts_any n W
  unfold ndV at LA
  go_enter Try.func76, Try.ntmps76
  go_wp2_with fail
  refine (LA _).mono ?_
  rintro e w1 ⟨rfl, hb1⟩
  clear LA
  have hb0 : Below w.heap.size w w1 := ((Below.refl _ _).alloc (Nat.le_refl _) _).trans (hb1.mono (by simp))
  have hbox : w1.heap[w.heap.size]? = some (.cells #[.int .u8 n.op, .int .i64 n.l, .int .i64 n.r] 124) := by
    rw [hb1.block _ (by simp)]; exact heap_alloc_new _ _
  have ht1 := ht.below hb0
  have hk1 := KpT.of_below hb0
  obtain ⟨g, cap, c0, own, hTg, hg, hcap⟩ := ht1.row (by omega)
  have HT1 := hid ht1
  have HK1 := hid hk1
  have HB0 := hid hb0
  clear hb1 own ht1 hk1 hb0
  go_wp2_with fail
  clear c0
  go_loopw [15] (fun i wr => ∃ j : Nat, j ≤ ps.length ∧ i = .int .i64 j ∧ Tb wr T back ((startL n k ps).take j ++ ps.drop j) ∧ Below T w wr ∧ KpT w wr ∧ wr.heap[w.heap.size]? = some (.cells #[.int .u8 n.op, .int .i64 n.l, .int .i64 n.r] 124)) (fun i _ => ps.length - (intOf i).toNat)
  case atStart =>
    exact ⟨0, Nat.zero_le _, rfl, by simpa using HT1.out, HB0.out.mono (by omega), HK1.out, hbox⟩
  case round =>
    obtain ⟨j, hj, rfl, htr, hbr, hkr, hbx⟩ := hrel
    have hcl := start_curlen n k ps j hj
    by_cases hlt : j < ps.length
    · obtain ⟨g1, cap1, d0, own1, hTg1, hg1, hcap1⟩ := htr.row (by omega)
      have ha := start_cur n k ps j hlt
      have y := flatP_get _ j (show j < ((startL n k ps).take j ++ ps.drop j).length by omega)
      rw [ha.1, ha.2] at y
      have y2 := (own1.cellAt (j * 2 + 1) (by omega)).trans y.2
      have z2 := own1.frozenAt (j * 2 + 1)
      rw [hcl] at d0 hcap1
      have HA := hid (start_step n k ps j hlt)
      have HAL := hid ha.1
      have hS := (hf j).2
      have htr2 := hid htr
      have HCL := hid hcl
      have hTw := htr.lt
      clear ha y own1 htr hcl
      generalize heldAt ps j = S at *
      generalize lastsB n.op = v at *
      go_wp2_with fail
      go_region_with (go_at_call 105; refine (with_any S k v _ hS hk).mono ?_; rintro e w' ⟨rfl, rfl⟩)
      all_goals
        go_wp2_with fail
        go_roundw
        case rel =>
          obtain ⟨t1, t2, t3⟩ := tb_put1 (i := j) (S := wth S k v) htr2.out (by rw [HCL.out]; omega) HCL.out (cap := cap1) (g := g1) d0
          rw [HAL.out, HA.out] at t1
          refine ⟨j + 1, by omega, by go_num, t1.drewN _, ?_, hkr.trans t2, t2 _ _ _ _ hbx (by decide)⟩
          exact below_drewN (hbr.trans (t3.mono (Nat.le_succ _))) _
        case measure => simp [intOf]; omega
    · have hj2 : j = ps.length := by omega
      subst hj2
      have e1 : (startL n k ps).take ps.length ++ ps.drop ps.length = startL n k ps := by
        rw [List.drop_length, List.append_nil, List.take_of_length_le (by rw [startL_len]; exact Nat.le_refl _)]
      rw [e1] at htr
      obtain ⟨b0, b1, b2⟩ : wr.cell? ⟨w.heap.size, 0, none⟩ = some (.int .u8 n.op) ∧ wr.cell? ⟨w.heap.size, 1, none⟩ = some (.int .i64 n.l) ∧ wr.cell? ⟨w.heap.size, 2, none⟩ = some (.int .i64 n.r) := by
        refine ⟨?_, ?_, ?_⟩ <;> (rw [cell_of_row wr _ _ _ _ _ hbx]; rfl)
      have sl := startL_len n k ps
      have S1 := fun W h => sweep_any T back k n (startL n k ps) W h (start_fine hk hf) (by omega) (by omega) hk hl hr
      have sl2 := sweepL_len n k (heldAt (startL n k ps) back) (startL n k ps)
      have S2 := fun W h => sweep_any T back k n (sweepL n k (heldAt (startL n k ps) back) (startL n k ps)).1 W h (sweepL_fine hk (start_fine hk hf)) (by omega) (by omega) hk hl hr
      clear e1 sl sl2 hcl
      have HTR := hid htr
      clear htr
      go_wp2_with fail
      refine (S1 _ HTR.out).mono ?_
      rintro e w2 ⟨rfl, ht2, hb2, hk2⟩
      have hbx2 := hk2 _ _ _ _ hbx (by decide)
      have HT2 := hid ht2
      clear b0 b1 b2 ht2
      obtain ⟨b0, b1, b2⟩ : w2.cell? ⟨w.heap.size, 0, none⟩ = some (.int .u8 n.op) ∧ w2.cell? ⟨w.heap.size, 1, none⟩ = some (.int .i64 n.l) ∧ w2.cell? ⟨w.heap.size, 2, none⟩ = some (.int .i64 n.r) := by
        refine ⟨?_, ?_, ?_⟩ <;> (rw [cell_of_row w2 _ _ _ _ _ hbx2]; rfl)
      go_wp2_with fail
      refine (S2 _ HT2.out).mono ?_
      rintro e w4 ⟨rfl, ht4, hb4, hk4⟩
      clear b0 b1 b2
      go_wp2_with fail
      go_end0
      exact ⟨rfl, ht4, (hbr.trans hb2).trans hb4, (hkr.trans hk2).trans hk4⟩

end Go.Proofs.Ytjagijohfkffiab

/- Plain mathematics: what a text's nodes are like; the table of a whole formula. -/
namespace Go.Proofs.Ytjagijohfkffiab

def Wf2 (ns : List Nd) : Prop := ∀ (i : Nat) (n : Nd), ns[i]? = some n → (leafB n.op = true ∧ n.l = 0 ∧ n.r = 0) ∨ (oneB n.op = true ∧ n.l < i ∧ n.r = 0) ∨ (twoB n.op = true ∧ n.l < i ∧ n.r < i)

theorem Wf2.snoc {ns : List Nd} (h : Wf2 ns) (n : Nd) (hn : (leafB n.op = true ∧ n.l = 0 ∧ n.r = 0) ∨ (oneB n.op = true ∧ n.l < ns.length ∧ n.r = 0) ∨ (twoB n.op = true ∧ n.l < ns.length ∧ n.r < ns.length)) : Wf2 (ns ++ [n]) := by
  intro i m hm
  by_cases hi : i < ns.length
  · rw [List.getElem?_append_left hi] at hm
    exact h i m hm
  · rw [List.getElem?_append_right (by omega)] at hm
    have : i = ns.length := by
      have := (List.getElem?_eq_some_iff.1 hm).1
      simp at this; omega
    subst this
    simp at hm
    subst hm
    exact hn

theorem ps_wf2 : ∀ (k : Nat) (s : ByteArray) (a : Nat) (ns : List Nd) (a' : Nat) (ns' : List Nd), ps k s a ns = some (a', ns') → Wf2 ns → Wf2 ns' ∧ ∃ ms, ns' = ns ++ ms
  | 0, _, _, _, _, _, h, _ => by simp [ps] at h
  | k + 1, s, a, ns, a', ns', h, hw => by
    by_cases b1 : leafB (bt s a) = true
    · rw [ps_leaf b1] at h
      simp only [Option.some.injEq, Prod.mk.injEq] at h
      obtain ⟨rfl, rfl⟩ := h
      exact ⟨hw.snoc _ (Or.inl ⟨b1, rfl, rfl⟩), _, rfl⟩
    · rw [Bool.not_eq_true] at b1
      by_cases b2 : oneB (bt s a) = true
      · rw [ps_one b2] at h
        unfold ps1 at h
        cases e : ps k s (a + 1) ns with
        | none => rw [e] at h; simp at h
        | some x =>
          obtain ⟨a1, n1⟩ := x
          rw [e] at h
          simp only [Option.some.injEq, Prod.mk.injEq] at h
          obtain ⟨rfl, rfl⟩ := h
          have g := ps_grows k s _ _ _ _ e
          obtain ⟨h1, ms, h2⟩ := ps_wf2 k s _ _ _ _ e hw
          exact ⟨h1.snoc _ (Or.inr (Or.inl ⟨b2, by simp only; omega, rfl⟩)), _, by rw [h2, List.append_assoc]⟩
      · rw [Bool.not_eq_true] at b2
        by_cases b3 : bt s a = 40
        · rw [ps_two b3] at h
          unfold ps2 at h
          cases e : ps k s (a + 1) ns with
          | none => rw [e] at h; simp at h
          | some x =>
            obtain ⟨a1, n1⟩ := x
            rw [e] at h
            simp only at h
            by_cases b4 : twoB (bt s a1) = true
            · rw [if_pos b4] at h
              cases e2 : ps k s (a1 + 1) n1 with
              | none => rw [e2] at h; simp at h
              | some x =>
                obtain ⟨a2, n2⟩ := x
                rw [e2] at h
                simp only at h
                by_cases b5 : bt s a2 = 41
                · rw [if_pos b5] at h
                  simp only [Option.some.injEq, Prod.mk.injEq] at h
                  obtain ⟨rfl, rfl⟩ := h
                  have g1 := ps_grows k s _ _ _ _ e
                  have g2 := ps_grows k s _ _ _ _ e2
                  obtain ⟨h1, ms1, q1⟩ := ps_wf2 k s _ _ _ _ e hw
                  obtain ⟨h2, ms2, q2⟩ := ps_wf2 k s _ _ _ _ e2 h1
                  exact ⟨h2.snoc _ (Or.inr (Or.inr ⟨b4, by simp only; omega, by simp only; omega⟩)), _, by rw [q2, q1, List.append_assoc, List.append_assoc]⟩
                · rw [if_neg b5] at h; simp at h
            · rw [if_neg b4] at h; simp at h
        · rw [ps_no b1 b2 b3] at h; simp at h

/-- The nodes of a formula that is one. -/
structure Good (ns : List Nd) : Prop where
  pos : 0 < ns.length
  le : ns.length ≤ 8
  wf : Wf2 ns

theorem parse_good {s : ByteArray} (h : (parseOf s).1 = 0) : Good (parseOf s).2 := by
  unfold parseOf at h ⊢
  split at h
  · simp at h
  · rename_i h1
    rw [if_neg h1]
    cases e : ps 25 s 0 [] with
    | none => rw [e] at h; simp at h
    | some x =>
      obtain ⟨a, ns⟩ := x
      rw [e] at h
      simp only at h ⊢
      split at h
      · rename_i h2
        rw [if_pos h2]
        split at h
        · simp at h
        · rename_i h3
          rw [if_neg h3]
          have g := ps_grows _ _ _ _ _ _ e
          have w := (ps_wf2 _ _ _ _ _ _ e (by intro i n h; simp at h)).1
          have g2 := g.2.2.2
          simp at g2
          exact ⟨g2, Nat.not_lt.1 h3, w⟩
      · simp at h

theorem Wf2.small {ns : List Nd} (h : Wf2 ns) (hl : ns.length ≤ 8) {i : Nat} {n : Nd} (hn : ns[i]? = some n) : n.l < 8 ∧ n.r < 8 := by
  have hi := (List.getElem?_eq_some_iff.1 hn).1
  rcases h i n hn with ⟨_, h1, h2⟩ | ⟨_, h1, h2⟩ | ⟨_, h1, h2⟩ <;> omega

def ndAt (ns : List Nd) (k : Nat) : Nd := ns.getD k ⟨0, 0, 0⟩

/-- The table behind k nodes. -/
def tabTo (back : Nat) (ns : List Nd) (ps : List (Nat × Nat)) : Nat → List (Nat × Nat)
  | 0 => ps
  | k + 1 => fillL (ndAt ns k) k back (tabTo back ns ps k)

theorem tabTo_len (back : Nat) (ns : List Nd) (ps : List (Nat × Nat)) (k : Nat) : (tabTo back ns ps k).length = ps.length := by
  induction k with
  | zero => rfl
  | succ k ih => simp only [tabTo]; rw [fillL_len, ih]
theorem tabTo_fine {back : Nat} {ns : List Nd} {ps : List (Nat × Nat)} (hf : Fine ps) (k : Nat) (hk : k ≤ 8) : Fine (tabTo back ns ps k) := by
  induction k with
  | zero => exact hf
  | succ k ih => exact fill_fine (by omega) (ih (by omega))

theorem tabTo_tells {back : Nat} {ns : List Nd} {ps : List (Nat × Nat)} {lt : Nat → Nat} (hb : back < ps.length) (hf : Fine ps) (hl : ∀ i, i < ps.length → letAt ps i = lt i) (hg : Wf2 ns) (h8 : ns.length ≤ 8) (k : Nat) (hk : k ≤ ns.length) :
    Tells ps.length back lt (ns.take k) (tabTo back ns ps k) := by
  induction k with
  | zero => exact ⟨rfl, hf, hl, fun i hi j hj => by simp at hj⟩
  | succ k ih =>
    have h1 := ih (by omega)
    have e : ns.take (k + 1) = ns.take k ++ [ndAt ns k] := by
      rw [List.take_succ_eq_append_getElem (by omega)]
      simp [ndAt, List.getD, List.getElem?_eq_getElem (show k < ns.length by omega)]
    have hn : ns[k]? = some (ndAt ns k) := by simp [ndAt, List.getD, List.getElem?_eq_getElem (show k < ns.length by omega)]
    have hlen : (ns.take k).length = k := by simp; omega
    rw [e]
    have key := tells_fill hb h1 (ndAt ns k) (by omega)
    rw [hlen] at key
    refine key ?_ ?_ ?_
    · intro h2
      rcases hg k _ hn with ⟨h3, _⟩ | ⟨_, h3, _⟩ | ⟨_, h3, _⟩
      · rw [h2] at h3; simp at h3
      · exact h3
      · exact h3
    · intro h2
      rcases hg k _ hn with ⟨h3, _⟩ | ⟨h3, _⟩ | ⟨_, _, h3⟩
      · rw [leaf_not_two h3] at h2; simp at h2
      · rw [one_not_two h3] at h2; simp at h2
      · exact h3
    · rcases hg k _ hn with ⟨h3, _⟩ | ⟨h3, _⟩ | ⟨h3, _⟩
      · exact Or.inl h3
      · exact Or.inr (Or.inl h3)
      · exact Or.inr (Or.inr h3)

/-- What the program's Holds answers of letters xs (stem and loop). -/
def holdsB (back : Nat) (ns : List Nd) (xs : List Nat) : Bool := (heldAt (tabTo back ns (xs.map fun x => (x, 0)) ns.length) 0).testBit (ns.length - 1)

def ltOf (xs : List Nat) (i : Nat) : Nat := xs.getD i 0

theorem holdsB_sem {back : Nat} {ns : List Nd} {xs : List Nat} (hg : Good ns) (hb : back < xs.length) (hx : ∀ x ∈ xs, x < 8) : holdsB back ns xs = true ↔ sem (lnx xs.length back) (ltOf xs) ns (ns.length - 1) 0 := by
  have hf : Fine (xs.map fun x => (x, 0)) := fine_of (by intro p hp; simp at hp; obtain ⟨x, hm, rfl⟩ := hp; exact ⟨hx x hm, by show 0 < 256; decide⟩)
  have ht := tabTo_tells (back := back) (ns := ns) (ps := xs.map fun x => (x, 0)) (lt := ltOf xs) (by simpa using hb) hf (by
    intro i hi
    simp at hi
    simp [letAt, ltOf, List.getD, List.getElem?_eq_getElem hi]) hg.wf hg.le ns.length (Nat.le_refl _)
  rw [List.take_length, List.length_map] at ht
  have := ht.2.2.2 0 (by omega) (ns.length - 1) (by have := hg.pos; omega)
  exact this

end Go.Proofs.Ytjagijohfkffiab
