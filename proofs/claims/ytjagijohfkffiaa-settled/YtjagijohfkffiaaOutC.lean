/- The walks of Step, Verdict, and the Outlook's Judge. -/
import Derived.Test.YtjagijohfkffiaaOutB
import Derived.Test.YtjagijohfkffiaaWords
import Derived.Deep.RegionHeld3
namespace Go.Proofs.Ytjagijohfkffiaa
open Go.RowKit
set_option linter.unusedVariables false

/-- An outlook in memory: the views before, the living ones, those of the beginning. -/
structure OutM (w : World) (P : Nat) (ns : List Nd) (liv beg : Nat → Bool) : Prop where
  bef : ∀ x N, x < 8 → N < 256 → w.cell? ⟨P, x * 256 + N, none⟩ = some (.int .u8 (bef ns x N : Nat))
  liv : GrpAt w P 2049 liv
  beg : GrpAt w P 2305 beg
theorem OutM.lt {w : World} {P : Nat} {ns : List Nd} {liv beg : Nat → Bool} (h : OutM w P ns liv beg) : P < w.heap.size := h.liv.lt
theorem OutM.below {B : Nat} {w w' : World} {P : Nat} {ns : List Nd} {liv beg : Nat → Bool} (h : OutM w P ns liv beg) (hb : Below B w w') (hlt : P < B) : OutM w' P ns liv beg :=
  ⟨fun x N hx hN => (hb.cell (p := ⟨P, x * 256 + N, none⟩) hlt).trans (h.bef x N hx hN), h.liv.below hb hlt, h.beg.below hb hlt⟩

def stepG (ns : List Nd) (liv fr : Nat → Bool) (x : Nat) : Nat → Bool := fun N => liv N && fr (bef ns x N)

set_option maxHeartbeats 1600000 in
set_option maxRecDepth 100000 in
theorem step_any (P x : Nat) (ns : List Nd) (liv beg fr : Nat → Bool) (w : World) (hx : x < 8) (h8 : ns.length ≤ 8) (ho : OutM w P ns liv beg) :
    Calls Try.prog 87 #[.pointer (some ⟨P, 0, none⟩), .agg (gv fr).toArray, .int .i64 x] w fun e w' => e = .returned (.agg (gv (stepG ns liv fr x)).toArray) ∧ Below w.heap.size w w' := by
  have HZ := hid Try.groupCells
  have hP := ho.lt
  have HO := hid ho
  have k1 : ((x : Int) < 0) = False := by simp
  clear ho
  go_enter Try.func87, Try.ntmps87
  go_wp2_with (refine wpList_store_grp rfl (.tmp 7) (.tmp 9) rfl (w.heap.size + 1 + 1) 0 (fun _ => false) rfl (congrArg Value.agg HZ.out) ?t1 ?_)
  case t1 =>
    have := (zero_new ((w.alloc (.cells (gv fr).toArray 81)).alloc (.cells Try.zeroCells81 81))).there
    simpa using this
  intro w1 S1
  have G7 := hid S1.at_
  have G6 : Hid (GrpAt w1 (w.heap.size + 1) 0 (fun _ => false)) := by
    have z := (zero_new (w.alloc (.cells (gv fr).toArray 81))).alloc (.cells Try.zeroCells81 81)
    rw [size_alloc] at z
    exact hid (S1.grp z (Or.inl (by omega)))
  have G4 : Hid (GrpAt w1 w.heap.size 0 fr) := hid (S1.grp (((grp_new w fr 81).alloc _).alloc _) (Or.inl (by omega)))
  have HB1 : Hid (Below w.heap.size w w1) := hid (S1.bel _ _ (by omega) ((((Below.refl _ _).alloc (Nat.le_refl _) _).alloc (by simp) _).alloc (by simp; omega) _))
  clear S1
  go_wp2_with fail
  go_loopw [17] (fun i wq => ∃ j : Nat, j ≤ 256 ∧ i = .int .i64 j ∧ Hid (GrpAt wq (w.heap.size + 1 + 1) 0 (upTo (stepG ns liv fr x) j)) ∧ Hid (GrpAt wq (w.heap.size + 1) 0 (fun _ => false)) ∧ Hid (GrpAt wq w.heap.size 0 fr) ∧ Hid (Below w.heap.size w wq)) (fun i _ => 256 - (intOf i).toNat)
  case atStart => exact ⟨0, by omega, rfl, by rw [upTo_zero]; exact G7, G6, G4, HB1⟩
  case round =>
    obtain ⟨j, hj, rfl, H7, H6, H4, HB⟩ := hrel
    rename World => W0
    by_cases hlj : j < 256
    · have q0 : W0.frozen? ⟨w.heap.size + 1 + 1, j, none⟩ = false := by have := H7.out.f j hlj; rwa [Nat.zero_add] at this
      have q1 : W0.cell? ⟨w.heap.size + 1 + 1, j, none⟩ = some (.bool (upTo (stepG ns liv fr x) j j)) := by have := H7.out.c j hlj; rwa [Nat.zero_add] at this
      have o := HO.out.below HB.out hP
      have c1 := o.liv.c j hlj
      have c2 := o.bef x j hx hlj
      have hbl := bef_lt h8 x j
      have c3 : W0.cell? ⟨w.heap.size, bef ns x j, none⟩ = some (.bool (fr (bef ns x j))) := by have := H4.out.c _ hbl; rwa [Nat.zero_add] at this
      have D7 := hid (H7.out.set hlj (stepG ns liv fr x j))
      have D6 := hid (H6.out.other ⟨w.heap.size + 1 + 1, j, none⟩ (.bool (stepG ns liv fr x j)) (Or.inl (by simp)))
      have D4 := hid (H4.out.other ⟨w.heap.size + 1 + 1, j, none⟩ (.bool (stepG ns liv fr x j)) (Or.inl (by simp; omega)))
      have DB := hid (HB.out.setCell (p := ⟨w.heap.size + 1 + 1, j, none⟩) (by show w.heap.size ≤ w.heap.size + 1 + 1; omega) (.bool (stepG ns liv fr x j)))
      rw [upTo_step, Nat.zero_add] at D7
      have e0 : stepG ns liv fr x j = (liv j && fr (bef ns x j)) := rfl
      generalize upTo (stepG ns liv fr x) j j = ov at *
      generalize stepG ns liv fr x j = sv at *
      generalize bef ns x j = bv at *
      generalize liv j = lv at *
      generalize fr bv = fv at *
      clear o
      subst e0
      cases lv with
      | false =>
        simp only [Bool.false_and] at D7 D6 D4 DB
        go_wp2_with fail
        go_roundw
        case rel => exact ⟨j + 1, by omega, by go_num, D7, D6, D4, DB⟩
        case measure => simp [intOf]; omega
      | true =>
        simp only [Bool.true_and] at D7 D6 D4 DB
        go_wp2_with fail
        go_roundw
        case rel => exact ⟨j + 1, by omega, by go_num, D7, D6, D4, DB⟩
        case measure => simp [intOf]; omega
    · obtain rfl : j = 256 := by omega
      have G := hid (H7.out.congr (fun j hj => upTo_all (stepG ns liv fr x) hj))
      go_wp2_with (first | (refine wpList_load_grp rfl (.tmp 7) rfl (w.heap.size + 1 + 1) 0 _ rfl G.out ?_) | (refine wpList_store_grp rfl (.tmp 6) (.tmp 41) rfl (w.heap.size + 1) 0 (stepG ns liv fr x) rfl rfl H6.out.there ?_))
      intro w5 S5
      go_wp2_with fail
      refine ret_group Try.results87 ?_ ?_ S5.at_ ?_
      · rfl
      · rfl
      · exact ⟨rfl, S5.bel _ _ (by omega) HB.out⟩

/-- What a group says. -/
def verdG (liv g : Nat → Bool) : Nat := if geq g liv = true then 1 else if geq g (fun _ => false) = true then 2 else 0

set_option maxHeartbeats 1600000 in
set_option maxRecDepth 100000 in
theorem verdict_any (P : Nat) (ns : List Nd) (liv beg g : Nat → Bool) (w : World) (ho : OutM w P ns liv beg) :
    Calls Try.prog 88 #[.pointer (some ⟨P, 0, none⟩), .agg (gv g).toArray] w fun e w' => e = .returned (.int .i64 (verdG liv g : Nat)) ∧ Below w.heap.size w w' := by
  have HZ := hid Try.groupCells
  have HO := hid ho
  have G3 := hid (grp_new w g 81)
  have GL := hid (ho.liv.alloc (.cells (gv g).toArray 81))
  have EQ := fun g h W => run_equal_grp 9998 g h W
  have EZ : ∀ W, (Op.equalIn 10000 81 (.agg (gv g).toArray) (.agg Try.zeroCells81)).run Try.prog W = .ok (geq g fun _ => false) W := fun W => by rw [Try.groupCells]; exact run_equal_grp 9998 g _ W
  clear ho
  go_enter Try.func88, Try.ntmps88
  go_wp2_with fail
  refine wp_region_held_drew (S := fun W => GrpAt W w.heap.size 0 g ∧ GrpAt W P 2049 liv) (by kernel_rfl) ⟨G3.out.drew, GL.out.drew⟩ (fun hHeld => ?_)
  refine wpAnyH_take (i := 0) (oi := { dst := some 5, op := Op.load 81 (.tmp 3), type := _, pos := _, after := _, guard := none }) (v := (Value.agg (gv g).toArray)) rfl (by kernel_rfl) (by kernel_rfl) (by kernel_rfl) (fun _ _ _ h => h) (yieldsIf_load_mid (by rfl) 81 (.tmp 3) rfl w.heap.size 0 rfl (gv g) _ (fun W h => h.1.rng) Try.groupUnder rfl (Try.groupSz g)) (by assumption) ?_
  simp only [Act.put, List.setIfInBounds_toArray, List.set_cons_zero, List.set_cons_succ]
  refine wpAnyH_take (i := 1) (oi := { dst := some 6, op := Op.move (.tmp 0), type := _, pos := _, after := _, guard := none }) (v := (Value.pointer (some ⟨P, 0, none⟩))) rfl (by kernel_rfl) (by kernel_rfl) (by kernel_rfl) (fun _ _ _ h => h) (Or.inl ⟨by rfl, by intro w' hSw; (try dsimp only at hSw); go_simp⟩) (by assumption) ?_
  simp only [Act.put, List.setIfInBounds_toArray, List.set_cons_zero, List.set_cons_succ]
  refine wpAnyH_take (i := 2) (oi := { dst := some 7, op := Op.nilCheck (.tmp 6), type := _, pos := _, after := _, guard := none }) (v := (Value.pointer (some ⟨P, 0, none⟩))) rfl (by kernel_rfl) (by kernel_rfl) (by kernel_rfl) (fun _ _ _ h => h) (Or.inl ⟨by rfl, by intro w' hSw; (try dsimp only at hSw); go_simp⟩) (by assumption) ?_
  simp only [Act.put, List.setIfInBounds_toArray, List.set_cons_zero, List.set_cons_succ]
  refine wpAnyH_take (i := 3) (oi := { dst := some 8, op := Op.fieldAddr _ (.tmp 7) 2, type := _, pos := _, after := _, guard := none }) (v := (Value.pointer (some ⟨P, 2049, none⟩))) rfl (by kernel_rfl) (by kernel_rfl) (by kernel_rfl) (fun _ _ _ h => h) (Or.inl ⟨by rfl, by intro w' hSw; (try dsimp only at hSw); go_simp⟩) (by assumption) ?_
  simp only [Act.put, List.setIfInBounds_toArray, List.set_cons_zero, List.set_cons_succ]
  refine wpAnyH_take (i := 4) (oi := { dst := some 9, op := Op.load 81 (.tmp 8), type := _, pos := _, after := _, guard := none }) (v := (Value.agg (gv liv).toArray)) rfl (by kernel_rfl) (by kernel_rfl) (by kernel_rfl) (fun _ _ _ h => h) (yieldsIf_load_mid (by rfl) 81 (.tmp 8) rfl P 2049 rfl (gv liv) _ (fun W h => h.2.rng) Try.groupUnder rfl (Try.groupSz liv)) (by assumption) ?_
  simp only [Act.put, List.setIfInBounds_toArray, List.set_cons_zero, List.set_cons_succ]
  refine wpAnyH_take (i := 5) (oi := { dst := some 10, op := Op.binOp BinOp.eql 81 (.tmp 5) (.tmp 9) 81, type := _, pos := _, after := _, guard := none }) (v := (Value.bool (geq g liv))) rfl (by kernel_rfl) (by kernel_rfl) (by kernel_rfl) (fun _ _ _ h => h) (Or.inl ⟨by rfl, by intro w' hSw; go_simp⟩) (by assumption) ?_
  simp only [Act.put, List.setIfInBounds_toArray, List.set_cons_zero, List.set_cons_succ]
  refine wpAnyH_done (by kernel_rfl) ?_ _
  have HV : Hid (verdG liv g = if geq g liv = true then 1 else if geq g (fun _ => false) = true then 2 else 0) := hid rfl
  have G3 := hid hHeld.1
  clear hHeld GL
  cases e1 : geq g liv with
  | true =>
    go_wp2_with fail
    go_ret
    exact ⟨by rw [HV.out, e1]; rfl, ((Below.refl _ _).alloc (Nat.le_refl _) _).drew⟩
  | false =>
    rw [e1] at HV
    clear e1
    cases e2 : geq g (fun _ => false) with
    | true =>
      rw [e2] at EZ
      go_wp2_with (refine wpList_load_grp rfl (.tmp 3) rfl w.heap.size 0 g rfl G3.out ?_)
      go_ret
      exact ⟨by rw [HV.out, e2]; rfl, ((Below.refl _ _).alloc (Nat.le_refl _) _).drew⟩
    | false =>
      rw [e2] at EZ
      go_wp2_with (refine wpList_load_grp rfl (.tmp 3) rfl w.heap.size 0 g rfl G3.out ?_)
      go_ret
      exact ⟨by rw [HV.out, e2]; rfl, ((Below.refl _ _).alloc (Nat.le_refl _) _).drew⟩

end Go.Proofs.Ytjagijohfkffiaa
