import Derived.Test.YtjagijohfkffiabCONM01
import Derived.Test.YtjagijohfkffiabCONM04
import Derived.Deep.RegionHeld3

/- The walks of AllLetters, IsLetter and the reference's word; slices of ints that are read. -/
namespace Go.Proofs.Ytjagijohfkffiab
open Go.RowKit
set_option linter.unusedVariables false

/-- The slice value has the numbers zs. -/
structure Ints (w : World) (ao : Option Addr) (len cap : Nat) (zs : List Int) : Prop where
  hlen : zs.length = len
  hcap : len ≤ cap
  hmax : cap ≤ 9223372036854775807
  hnil : ao = none → len = 0 ∧ cap = 0
  hcell : 0 < len → ∃ b off, ao = some ⟨b, off, none⟩ ∧ b < w.heap.size ∧ ∀ i, i < len → w.cell? ⟨b, off + i, none⟩ = some (.int .i64 (zs.getD i 0))

theorem Ints.below {w w' : World} {ao : Option Addr} {len cap : Nat} {zs : List Int} (h : Ints w ao len cap zs) (hb : Below w.heap.size w w') : Ints w' ao len cap zs := by
  refine ⟨h.hlen, h.hcap, h.hmax, h.hnil, fun h0 => ?_⟩
  obtain ⟨b, off, e, hlt, hc⟩ := h.hcell h0
  exact ⟨b, off, e, Nat.lt_of_lt_of_le hlt hb.size, fun i hi => by rw [hb.cell (p := ⟨b, off + i, none⟩) hlt]; exact hc i hi⟩

def isL (z : Int) : Bool := decide (0 ≤ z) && decide (z < 8)
def allL (zs : List Int) : Bool := zs.all isL

theorem isL_iff {z : Int} : isL z = true ↔ 0 ≤ z ∧ z < 8 := by simp [isL]
set_option maxHeartbeats 400000 in
theorem isLetter_any (z : Int) (w : World) : Calls Try.prog 63 #[.int .i64 z] w fun e w' => e = .returned (.bool (isL z)) ∧ w' = w := by
  by_cases h1 : 0 ≤ z
  · by_cases h2 : z < 8
    · have H : Hid (isL z = true) := hid (by simp [isL, h1, h2])
      go_enter Try.func63, Try.ntmps63
      go_wp2
      go_ret
      exact ⟨by rw [H.out]; rfl, rfl⟩
    · have H : Hid (isL z = false) := hid (by simp [isL]; omega)
      go_enter Try.func63, Try.ntmps63
      go_wp2
      go_ret
      exact ⟨by rw [H.out]; rfl, rfl⟩
  · have H : Hid (isL z = false) := hid (by simp [isL]; omega)
    go_enter Try.func63, Try.ntmps63
    go_wp2
    go_ret
    exact ⟨by rw [H.out]; rfl, rfl⟩

theorem all_take {zs : List Int} (h : ∀ m, m < zs.length → isL (zs.getD m 0) = true) : allL zs = true := by
  unfold allL
  rw [List.all_eq_true]
  intro x hx
  obtain ⟨i, hi, rfl⟩ := List.getElem_of_mem hx
  have := h i hi
  simpa [List.getD, List.getElem?_eq_getElem hi] using this
theorem all_not {zs : List Int} {m : Nat} (hm : m < zs.length) (h : isL (zs.getD m 0) = false) : allL zs = false := by
  unfold allL
  rw [List.all_eq_false]
  refine ⟨zs[m], List.getElem_mem hm, ?_⟩
  simpa [List.getD, List.getElem?_eq_getElem hm] using h

set_option maxHeartbeats 400000 in
theorem allLetters_any (ao : Option Addr) (len cap : Nat) (zs : List Int) (w : World) (h : Ints w ao len cap zs) : Calls Try.prog 35 #[.slice ao len cap] w fun e w' => e = .returned (.bool (allL zs)) ∧ w' = w := by
  have hl := h.hlen
  have hc := h.hcap
  have hm := h.hmax
  go_enter Try.func35, Try.ntmps35
  go_wp2_with fail
  go_loop [7] (fun i => ∃ j : Nat, j ≤ len ∧ i = .int .i64 j ∧ Hid (∀ m, m < j → isL (zs.getD m 0) = true)) (fun i => len - (intOf i).toNat)
  case atStart => exact ⟨0, Nat.zero_le _, rfl, hid (fun m hm => by omega)⟩
  case round =>
    obtain ⟨j, hj, rfl, HI⟩ := hrel
    by_cases hlt : j < len
    · obtain ⟨b, off, rfl, hb, hcell⟩ := h.hcell (by omega)
      have c := hcell j hlt
      clear hcell
      cases hz : isL (zs.getD j 0) with
      | true =>
        have HZ := hid hz
        clear hz
        generalize hx : zs.getD j 0 = x at *
        have HX := hid hx
        clear hx
        go_wp2_with fail
        refine (isLetter_any x w).mono ?_
        rintro e w' ⟨rfl, rfl⟩
        rw [HZ.out]
        go_wp2_with fail
        go_round
        case rel =>
          refine ⟨j + 1, by omega, by go_num, hid (fun m hm => ?_)⟩
          by_cases e : m < j
          · exact HI.out m e
          · rw [show m = j by omega, HX.out]; exact HZ.out
        case measure => simp [intOf]; omega
      | false =>
        have HN := hid (all_not (zs := zs) (m := j) (by omega) hz)
        have HZ := hid hz
        clear hz
        generalize zs.getD j 0 = x at *
        go_wp2_with fail
        refine (isLetter_any x w).mono ?_
        rintro e w' ⟨rfl, rfl⟩
        rw [HZ.out]
        go_wp2_with fail
        go_ret
        exact ⟨by rw [HN.out]; rfl, rfl⟩
    · have HA := hid (all_take (zs := zs) (fun m hm => HI.out m (by omega)))
      go_wp2_with fail
      go_ret
      exact ⟨by rw [HA.out]; rfl, rfl⟩

end Go.Proofs.Ytjagijohfkffiab

/- The walks of Step, Verdict, and the Outlook's Judge. -/
namespace Go.Proofs.Ytjagijohfkffiab
open Go.RowKit
set_option linter.unusedVariables false

/-- An outlook in memory: the views before, the living ones, those of the beginning. -/
structure OutM (w : World) (P : Nat) (ns : List Nd) (liv beg : Nat → Bool) : Prop where
  bef : ∀ x N, x < 8 → N < 256 → w.cell? ⟨P, x * 256 + N, none⟩ = some (.int .u8 (bef ns x N : Nat))
  liv : GrpAt w P 2049 liv
  beg : GrpAt w P 2305 beg
theorem OutM.lt {w : World} {P : Nat} {ns : List Nd} {liv beg : Nat → Bool} (h : OutM w P ns liv beg) : P < w.heap.size := h.liv.lt
theorem OutM.below {B : Nat} {w w' : World} {P : Nat} {ns : List Nd} {liv beg : Nat → Bool} (h : OutM w P ns liv beg) (hb : Below B w w') (hlt : P < B) : OutM w' P ns liv beg :=
  ⟨fun x N hx hN => (hb.cell (p := ⟨P, x * 256 + N, none⟩) hlt).trans (h.bef x N hx hN), h.liv.below hb hlt, h.beg.below hb hlt⟩

def stepG (ns : List Nd) (liv fr : Nat → Bool) (x : Nat) : Nat → Bool := fun N => liv N && fr (bef ns x N)

set_option maxHeartbeats 1600000 in
set_option maxRecDepth 100000 in
theorem step_any (P x : Nat) (ns : List Nd) (liv beg fr : Nat → Bool) (w : World) (hx : x < 8) (h8 : ns.length ≤ 8) (ho : OutM w P ns liv beg) :
    Calls Try.prog 70 #[.pointer (some ⟨P, 0, none⟩), .agg (gv fr).toArray, .int .i64 x] w fun e w' => e = .returned (.agg (gv (stepG ns liv fr x)).toArray) ∧ Below w.heap.size w w' := by
  have HZ := hid Try.groupCells
  have hP := ho.lt
  have HO := hid ho
  have k1 : ((x : Int) < 0) = False := by simp
  clear ho
  go_enter Try.func70, Try.ntmps70
  go_wp2_with (refine wpList_store_grp rfl (.tmp 7) (.tmp 9) rfl (w.heap.size + 1 + 1) 0 (fun _ => false) rfl (congrArg Value.agg HZ.out) ?t1 ?_)
  case t1 =>
    have := (zero_new ((w.alloc (.cells (gv fr).toArray 69)).alloc (.cells Try.zeroCells69 69))).there
    simpa using this
  intro w1 S1
  have G7 := hid S1.at_
  have G6 : Hid (GrpAt w1 (w.heap.size + 1) 0 (fun _ => false)) := by
    have z := (zero_new (w.alloc (.cells (gv fr).toArray 69))).alloc (.cells Try.zeroCells69 69)
    rw [size_alloc] at z
    exact hid (S1.grp z (Or.inl (by omega)))
  have G4 : Hid (GrpAt w1 w.heap.size 0 fr) := hid (S1.grp (((grp_new w fr 69).alloc _).alloc _) (Or.inl (by omega)))
  have HB1 : Hid (Below w.heap.size w w1) := hid (S1.bel _ _ (by omega) ((((Below.refl _ _).alloc (Nat.le_refl _) _).alloc (by simp) _).alloc (by simp; omega) _))
  clear S1
  go_wp2_with fail
  go_loopw [17] (fun i wq => ∃ j : Nat, j ≤ 256 ∧ i = .int .i64 j ∧ Hid (GrpAt wq (w.heap.size + 1 + 1) 0 (upTo (stepG ns liv fr x) j)) ∧ Hid (GrpAt wq (w.heap.size + 1) 0 (fun _ => false)) ∧ Hid (GrpAt wq w.heap.size 0 fr) ∧ Hid (Below w.heap.size w wq)) (fun i _ => 256 - (intOf i).toNat)
  case atStart => exact ⟨0, by omega, rfl, by rw [upTo_zero]; exact G7, G6, G4, HB1⟩
  case round =>
    obtain ⟨j, hj, rfl, H7, H6, H4, HB⟩ := hrel
    rename World => W0
    by_cases hlj : j < 256
    · have q0 : W0.frozen? ⟨w.heap.size + 1 + 1, j, none⟩ = false := by have := H7.out.f j hlj; rwa [Nat.zero_add] at this
      have q1 : W0.cell? ⟨w.heap.size + 1 + 1, j, none⟩ = some (.bool (upTo (stepG ns liv fr x) j j)) := by have := H7.out.c j hlj; rwa [Nat.zero_add] at this
      have o := HO.out.below HB.out hP
      have c1 := o.liv.c j hlj
      have c2 := o.bef x j hx hlj
      have hbl := bef_lt h8 x j
      have c3 : W0.cell? ⟨w.heap.size, bef ns x j, none⟩ = some (.bool (fr (bef ns x j))) := by have := H4.out.c _ hbl; rwa [Nat.zero_add] at this
      have D7 := hid (H7.out.set hlj (stepG ns liv fr x j))
      have D6 := hid (H6.out.other ⟨w.heap.size + 1 + 1, j, none⟩ (.bool (stepG ns liv fr x j)) (Or.inl (by simp)))
      have D4 := hid (H4.out.other ⟨w.heap.size + 1 + 1, j, none⟩ (.bool (stepG ns liv fr x j)) (Or.inl (by simp; omega)))
      have DB := hid (HB.out.setCell (p := ⟨w.heap.size + 1 + 1, j, none⟩) (by show w.heap.size ≤ w.heap.size + 1 + 1; omega) (.bool (stepG ns liv fr x j)))
      rw [upTo_step, Nat.zero_add] at D7
      have e0 : stepG ns liv fr x j = (liv j && fr (bef ns x j)) := rfl
      generalize upTo (stepG ns liv fr x) j j = ov at *
      generalize stepG ns liv fr x j = sv at *
      generalize bef ns x j = bv at *
      generalize liv j = lv at *
      generalize fr bv = fv at *
      clear o
      subst e0
      cases lv with
      | false =>
        simp only [Bool.false_and] at D7 D6 D4 DB
        go_wp2_with fail
        go_roundw
        case rel => exact ⟨j + 1, by omega, by go_num, D7, D6, D4, DB⟩
        case measure => simp [intOf]; omega
      | true =>
        simp only [Bool.true_and] at D7 D6 D4 DB
        go_wp2_with fail
        go_roundw
        case rel => exact ⟨j + 1, by omega, by go_num, D7, D6, D4, DB⟩
        case measure => simp [intOf]; omega
    · obtain rfl : j = 256 := by omega
      have G := hid (H7.out.congr (fun j hj => upTo_all (stepG ns liv fr x) hj))
      go_wp2_with (first | (refine wpList_load_grp rfl (.tmp 7) rfl (w.heap.size + 1 + 1) 0 _ rfl G.out ?_) | (refine wpList_store_grp rfl (.tmp 6) (.tmp 41) rfl (w.heap.size + 1) 0 (stepG ns liv fr x) rfl rfl H6.out.there ?_))
      intro w5 S5
      go_wp2_with fail
      refine ret_group Try.results70 ?_ ?_ S5.at_ ?_
      · rfl
      · rfl
      · exact ⟨rfl, S5.bel _ _ (by omega) HB.out⟩

/-- What a group says. -/
def verdG (liv g : Nat → Bool) : Nat := if geq g liv = true then 1 else if geq g (fun _ => false) = true then 2 else 0

set_option maxHeartbeats 1600000 in
set_option maxRecDepth 100000 in
theorem verdict_any (P : Nat) (ns : List Nd) (liv beg g : Nat → Bool) (w : World) (ho : OutM w P ns liv beg) :
    Calls Try.prog 71 #[.pointer (some ⟨P, 0, none⟩), .agg (gv g).toArray] w fun e w' => e = .returned (.int .i64 (verdG liv g : Nat)) ∧ Below w.heap.size w w' := by
  have HZ := hid Try.groupCells
  have HO := hid ho
  have G3 := hid (grp_new w g 69)
  have GL := hid (ho.liv.alloc (.cells (gv g).toArray 69))
  have EQ := fun g h W => run_equal_grp 9998 g h W
  have EZ : ∀ W, (Op.equalIn 10000 69 (.agg (gv g).toArray) (.agg Try.zeroCells69)).run Try.prog W = .ok (geq g fun _ => false) W := fun W => by rw [Try.groupCells]; exact run_equal_grp 9998 g _ W
  clear ho
  go_enter Try.func71, Try.ntmps71
  go_wp2_with fail
  refine wp_region_held_drew (S := fun W => GrpAt W w.heap.size 0 g ∧ GrpAt W P 2049 liv) (by kernel_rfl) ⟨G3.out.drew, GL.out.drew⟩ (fun hHeld => ?_)
  refine wpAnyH_take (i := 0) (oi := { dst := some 5, op := Op.load 69 (.tmp 3), type := _, pos := _, after := _, guard := none }) (v := (Value.agg (gv g).toArray)) rfl (by kernel_rfl) (by kernel_rfl) (by kernel_rfl) (fun _ _ _ h => h) (yieldsIf_load_mid (by rfl) 69 (.tmp 3) rfl w.heap.size 0 rfl (gv g) _ (fun W h => h.1.rng) Try.groupUnder rfl (Try.groupSz g)) (by assumption) ?_
  simp only [Act.put, List.setIfInBounds_toArray, List.set_cons_zero, List.set_cons_succ]
  refine wpAnyH_take (i := 1) (oi := { dst := some 6, op := Op.move (.tmp 0), type := _, pos := _, after := _, guard := none }) (v := (Value.pointer (some ⟨P, 0, none⟩))) rfl (by kernel_rfl) (by kernel_rfl) (by kernel_rfl) (fun _ _ _ h => h) (Or.inl ⟨by rfl, by intro w' hSw; (try dsimp only at hSw); go_simp⟩) (by assumption) ?_
  simp only [Act.put, List.setIfInBounds_toArray, List.set_cons_zero, List.set_cons_succ]
  refine wpAnyH_take (i := 2) (oi := { dst := some 7, op := Op.nilCheck (.tmp 6), type := _, pos := _, after := _, guard := none }) (v := (Value.pointer (some ⟨P, 0, none⟩))) rfl (by kernel_rfl) (by kernel_rfl) (by kernel_rfl) (fun _ _ _ h => h) (Or.inl ⟨by rfl, by intro w' hSw; (try dsimp only at hSw); go_simp⟩) (by assumption) ?_
  simp only [Act.put, List.setIfInBounds_toArray, List.set_cons_zero, List.set_cons_succ]
  refine wpAnyH_take (i := 3) (oi := { dst := some 8, op := Op.fieldAddr _ (.tmp 7) 2, type := _, pos := _, after := _, guard := none }) (v := (Value.pointer (some ⟨P, 2049, none⟩))) rfl (by kernel_rfl) (by kernel_rfl) (by kernel_rfl) (fun _ _ _ h => h) (Or.inl ⟨by rfl, by intro w' hSw; (try dsimp only at hSw); go_simp⟩) (by assumption) ?_
  simp only [Act.put, List.setIfInBounds_toArray, List.set_cons_zero, List.set_cons_succ]
  refine wpAnyH_take (i := 4) (oi := { dst := some 9, op := Op.load 69 (.tmp 8), type := _, pos := _, after := _, guard := none }) (v := (Value.agg (gv liv).toArray)) rfl (by kernel_rfl) (by kernel_rfl) (by kernel_rfl) (fun _ _ _ h => h) (yieldsIf_load_mid (by rfl) 69 (.tmp 8) rfl P 2049 rfl (gv liv) _ (fun W h => h.2.rng) Try.groupUnder rfl (Try.groupSz liv)) (by assumption) ?_
  simp only [Act.put, List.setIfInBounds_toArray, List.set_cons_zero, List.set_cons_succ]
  refine wpAnyH_take (i := 5) (oi := { dst := some 10, op := Op.binOp BinOp.eql 69 (.tmp 5) (.tmp 9) 69, type := _, pos := _, after := _, guard := none }) (v := (Value.bool (geq g liv))) rfl (by kernel_rfl) (by kernel_rfl) (by kernel_rfl) (fun _ _ _ h => h) (Or.inl ⟨by rfl, by intro w' hSw; go_simp⟩) (by assumption) ?_
  simp only [Act.put, List.setIfInBounds_toArray, List.set_cons_zero, List.set_cons_succ]
  refine wpAnyH_done (by kernel_rfl) ?_ _
  have HV : Hid (verdG liv g = if geq g liv = true then 1 else if geq g (fun _ => false) = true then 2 else 0) := hid rfl
  have G3 := hid hHeld.1
  clear hHeld GL
  cases e1 : geq g liv with
  | true =>
    go_wp2_with fail
    go_ret
    exact ⟨by rw [HV.out, e1]; rfl, ((Below.refl _ _).alloc (Nat.le_refl _) _).drew⟩
  | false =>
    rw [e1] at HV
    clear e1
    cases e2 : geq g (fun _ => false) with
    | true =>
      rw [e2] at EZ
      go_wp2_with (refine wpList_load_grp rfl (.tmp 3) rfl w.heap.size 0 g rfl G3.out ?_)
      go_ret
      exact ⟨by rw [HV.out, e2]; rfl, ((Below.refl _ _).alloc (Nat.le_refl _) _).drew⟩
    | false =>
      rw [e2] at EZ
      go_wp2_with (refine wpList_load_grp rfl (.tmp 3) rfl w.heap.size 0 g rfl G3.out ?_)
      go_ret
      exact ⟨by rw [HV.out, e2]; rfl, ((Below.refl _ _).alloc (Nat.le_refl _) _).drew⟩

end Go.Proofs.Ytjagijohfkffiab

/- The walk of the Outlook's Judge. -/
namespace Go.Proofs.Ytjagijohfkffiab
open Go.RowKit
set_option linter.unusedVariables false

def runG (ns : List Nd) (liv : Nat → Bool) (g : Nat → Bool) (us : List Nat) : Nat → Bool := us.foldl (fun g x => stepG ns liv g x) g
theorem runG_snoc (ns : List Nd) (liv g : Nat → Bool) (us : List Nat) (x : Nat) : runG ns liv g (us ++ [x]) = stepG ns liv (runG ns liv g us) x := by simp [runG]

theorem take_nat {zs : List Int} {j : Nat} (h : j < zs.length) {x : Nat} (hx : zs.getD j 0 = (x : Int)) : (zs.map Int.toNat).take (j + 1) = (zs.map Int.toNat).take j ++ [x] := by
  rw [List.take_succ_eq_append_getElem (by simpa using h)]
  have : zs[j] = (x : Int) := by simpa [List.getD, List.getElem?_eq_getElem h] using hx
  simp [this]

set_option maxHeartbeats 1600000 in
set_option maxRecDepth 100000 in
theorem ojudge_any (P : Nat) (ns : List Nd) (liv beg : Nat → Bool) (ao : Option Addr) (len cap : Nat) (zs : List Int) (w : World) (h8 : ns.length ≤ 8) (ho : OutM w P ns liv beg) (hi : Ints w ao len cap zs) (ha : allL zs = true) :
    Calls Try.prog 37 #[.pointer (some ⟨P, 0, none⟩), .slice ao len cap] w fun e w' => e = .returned (.int .i64 (verdG liv (runG ns liv beg (zs.map Int.toNat)) : Nat)) ∧ Below w.heap.size w w' := by
  have hP := ho.lt
  have HO := hid ho
  have HI := hid hi
  have hl := hi.hlen
  have hc := hi.hcap
  have hm := hi.hmax
  have HA := hid ha
  have HL := hid hl
  clear ho hi ha hl
  go_enter Try.func37, Try.ntmps37
  go_wp2_with fail
  refine (begin_any P beg _ HO.out.beg).mono ?_
  rintro e w1 ⟨rfl, hb1⟩
  have hs1 := hb1.size
  go_wp2_with (refine wpList_store_grp rfl (.tmp 5) (.tmp 9) rfl w1.heap.size 0 beg rfl rfl (zero_new w1).there ?_)
  intro w2 S2
  have G5 := hid S2.at_
  have HB2 : Hid (Below w.heap.size w w2) := hid (S2.bel _ _ hs1 (hb1.alloc hs1 _))
  clear S2 hb1
  generalize w1.heap.size = gb at *
  go_wp2_with fail
  go_loopw [12] (fun i wq => ∃ j : Nat, j ≤ len ∧ i = .int .i64 j ∧ Hid (GrpAt wq gb 0 (runG ns liv beg ((zs.map Int.toNat).take j))) ∧ Hid (Below w.heap.size w wq)) (fun i _ => len - (intOf i).toNat)
  case atStart => exact ⟨0, Nat.zero_le _, rfl, by simpa [runG] using G5, HB2⟩
  case round =>
    obtain ⟨j, hj, rfl, H5, HB⟩ := hrel
    rename World => W0
    by_cases hlt : j < len
    · obtain ⟨b, off, rfl, hb, hcell⟩ := HI.out.hcell (by omega)
      have c := (HB.out.cell (p := ⟨b, off + j, none⟩) hb).trans (hcell j hlt)
      have hz : isL (zs.getD j 0) = true := by
        have h1 := HA.out
        unfold allL at h1
        rw [List.all_eq_true] at h1
        have h2 : j < zs.length := by rw [HL.out]; exact hlt
        have h3 : zs.getD j 0 = zs[j] := by simp [List.getD, List.getElem?_eq_getElem h2]
        rw [h3]
        exact h1 _ (List.getElem_mem h2)
      obtain ⟨x, hx⟩ : ∃ x : Nat, zs.getD j 0 = (x : Int) := ⟨(zs.getD j 0).toNat, by have := (isL_iff.1 hz).1; omega⟩
      have hx8 : x < 8 := by have := (isL_iff.1 hz).2; omega
      have HT := hid (take_nat (zs := zs) (j := j) (by rw [HL.out]; exact hlt) hx)
      rw [hx] at c
      clear hx hz hcell
      have ST := fun fr W (h : OutM W P ns liv beg) => step_any P x ns liv beg fr W hx8 h8 h
      have o := hid (HO.out.below HB.out hP)
      go_wp2_with (refine wpList_load_grp rfl (.tmp 5) rfl gb 0 _ rfl H5.out ?_)
      refine (ST _ _ o.out).mono ?_
      rintro e w3 ⟨rfl, hb3⟩
      have G3 := hid (H5.out.below hb3 H5.out.lt)
      have HB3 := hid (HB.out.trans (hb3.mono HB.out.size))
      clear hb3 ST o
      go_wp2_with (refine wpList_store_grp rfl (.tmp 5) (.tmp 19) rfl gb 0 (stepG ns liv (runG ns liv beg ((zs.map Int.toNat).take j)) x) rfl rfl G3.out.there ?_)
      intro w4 S4
      have G4 := hid S4.at_
      have HB4 := hid (S4.bel _ _ hs1 HB3.out)
      clear S4
      go_wp2_with fail
      go_roundw
      case rel => exact ⟨j + 1, by omega, by go_num, by rw [HT.out, runG_snoc]; exact G4, HB4⟩
      case measure => simp [intOf]; omega
    · obtain rfl : j = len := by omega
      have o := hid (HO.out.below HB.out hP)
      have HE : Hid ((zs.map Int.toNat).take j = zs.map Int.toNat) := hid (List.take_of_length_le (by simp [HL.out]))
      go_wp2_with (refine wpList_load_grp rfl (.tmp 5) rfl gb 0 _ rfl H5.out ?_)
      refine (verdict_any P ns liv beg _ _ o.out).mono ?_
      rintro e w3 ⟨rfl, hb3⟩
      go_wp2_with fail
      go_ret
      exact ⟨by rw [HE.out]; rfl, HB.out.trans (hb3.mono HB.out.size)⟩

end Go.Proofs.Ytjagijohfkffiab
