import Derived.Test.YtjagijohfkffiabCHEM08
import Derived.Test.YtjagijohfkffiabCHEM19
import Derived.Test.YtjagijohfkffiabCHEM30
import Derived.Test.YtjagijohfkffiabCHEM41
import Derived.Test.YtjagijohfkffiabCHEM42

/- For the walk of the reference's rows: what it lays down; a struct of three cells. -/
namespace Go.Proofs.Ytjagijohfkffiab
open Go.RowKit
set_option linter.unusedVariables false

/-- There is a set. -/
theorem some_set {ns : List Nd} (hw : Wf2 ns) : 0 < (vsTo ns (2 ^ ns.length)).length := by
  obtain ⟨S, _, hE⟩ := erow_truth hw (fun _ => 0)
  obtain ⟨f1, f2, _⟩ := (step_iff hw _ _ _).1 (hE.step 0)
  obtain ⟨i, hi, _⟩ := (all_sets hw).all (S 0) 0 (by omega) f1 f2
  omega
theorem sets_le {ns : List Nd} (hg : Good ns) : (vsTo ns (2 ^ ns.length)).length ≤ 256 :=
  Nat.le_trans (vsTo_len _ _) (Nat.le_trans (Nat.pow_le_pow_right (by omega) hg.le) (by decide))
theorem toS_count (ns : List Nd) (vs : List Nat) (a j : Nat) : (toS ns vs a).count j ≤ 8 := by
  have h : (toS ns vs a).Nodup := List.nodup_range.filter _
  have := List.nodup_iff_count.1 h j
  omega

/-- The places that are good, below j. -/
def idxG (good : Nat → Bool) (j : Nat) : List Nat := (List.range j).filter good
theorem idx_yes {good : Nat → Bool} {j : Nat} (h : good j = true) : idxG good (j + 1) = idxG good j ++ [j] := by simp [idxG, List.range_succ, List.filter_append, h]
theorem idx_no {good : Nat → Bool} {j : Nat} (h : good j = false) : idxG good (j + 1) = idxG good j := by simp [idxG, List.range_succ, List.filter_append, h]
theorem idx_len (vs : List Nat) (good : Nat → Bool) (j : Nat) : (pickV vs good j).length = (idxG good j).length := by simp [pickV, idxG]
theorem pick_at {vs : List Nat} {good : Nat → Bool} {j i : Nat} (hi : i < (idxG good j).length) : atN (pickV vs good j) i = atN vs (atN (idxG good j) i) := by
  simp only [pickV, idxG] at *
  simp [atN, List.getD, List.getElem?_map, List.getElem?_eq_getElem hi]
theorem map_at (l : List Nat) (f : Nat → Value) : l.map f = (List.range l.length).map (fun i => f (atN l i)) := by
  apply List.ext_getElem
  · simp
  · intro i h1 h2
    simp at h1
    simp [atN, List.getD, List.getElem?_eq_getElem h1]

/-- The list that rows lays down is a list of sets. -/
theorem pick_setl {w : World} {B B1 B2 : Nat} {v : Value} {n : Nat} {vs : List Nat} {good : Nat → Bool} {bb : Nat → Nat} (h1 : B ≤ B1) (h2 : B ≤ B2)
    (ho : w.ownsRow B1 105 1 v (idxG good vs.length).length ((idxG good vs.length).map fun q => setVal n (bb q)))
    (hr : ∀ i, i < vs.length → w.ownsRow B2 4 1 (setVal n (bb i)) n (outTo (bitF (atN vs i)) n n)) : SetL w B v n (pickV vs good vs.length) := by
  refine ⟨fun i => bb (atN (idxG good vs.length) i), ?_, fun i hi => ?_⟩
  · have := own_mono ho h1
    rw [map_at] at this
    rw [idx_len]
    exact this
  · rw [idx_len] at hi
    rw [pick_at hi]
    have hm := atN_mem hi
    unfold idxG at hm
    exact own_mono (hr _ (List.mem_range.1 (List.mem_filter.1 hm).1)) h2

/-- A list of sets is read as a slice of rows of bools. -/
theorem setl_brs {w : World} {B : Nat} {v : Value} {n : Nat} {vs : List Nat} (hn : 0 < n) (h : SetL w B v n vs) : BRs w v vs.length n (mOf vs) := by
  obtain ⟨b, ho, hr⟩ := h
  rcases ho.2 with ⟨rfl, h0⟩ | ⟨g, cap, cur, rfl, hb, hh, hc, hm, _⟩
  · exact ⟨none, 0, by rw [h0], by omega, fun h => by omega⟩
  · refine ⟨_, cap, rfl, hc, fun _ => ⟨g, rfl, heap_lt hh, fun i hi => ⟨b i, ?_, set_rb hn (hr i hi)⟩⟩⟩
    rw [ho.cellAt i (by omega)]
    simp [List.getElem?_map, List.getElem?_range hi, setVal]

/-- Endless, of the net of all sets. -/
theorem endless_sets (ns : List Nd) (hg : Good ns) (P : Nat) (w : World) (hn : NetM w P (vsTo ns (2 ^ ns.length)).length (toS ns (vsTo ns (2 ^ ns.length))) ns.length (kpS ns (vsTo ns (2 ^ ns.length)))) :
    Calls Try.prog 52 #[.pointer (some ⟨P, 0, none⟩)] w fun e w' => ∃ g out, e = .returned (.slice (some ⟨g, 0, none⟩) (vsTo ns (2 ^ ns.length)).length (vsTo ns (2 ^ ns.length)).length) ∧ w.heap.size ≤ g ∧ BO w' w.heap.size g (vsTo ns (2 ^ ns.length)).length out ∧ (∀ i, i < (vsTo ns (2 ^ ns.length)).length → (out i = true ↔ chain ns [] (mOf (vsTo ns (2 ^ ns.length)) i))) ∧ Below w.heap.size w w' := by
  have hle := sets_le hg
  have h8 := hg.le
  refine (endless_net turned_c P _ ns.length _ _ w hn (some_set hg.wf) (fun a _ b hb => toS_lt hb) (fun a _ => Nat.le_trans (toS_len ns _ a) (by omega)) (fun a _ j => toS_count ns _ a j) (by omega) (by omega)).mono ?_
  rintro e w' ⟨g, out, he, h1, h2, h3, h4⟩
  exact ⟨g, out, he, h1, h2, fun i hi => endless_chain hg.wf h3 hi, h4⟩

end Go.Proofs.Ytjagijohfkffiab

/- The walk of the reference's rows (laid by gen_rows.py). -/
namespace Go.Proofs.Ytjagijohfkffiab
open Go.RowKit
set_option linter.unusedVariables false

theorem nrs_set2 {w : World} {R N : Nat} {x : Option Addr} {v : Value} {to : Nat → List Nat} (h : NRs w v N to) (h0 : w.cell? ⟨R, 0, none⟩ = some (.pointer x)) (u : Value) : NRs (w.setCell ⟨R, 2, none⟩ u) v N to := by
  obtain ⟨ao, cap, rfl, hc, h⟩ := h
  refine ⟨ao, cap, rfl, hc, fun hN => ?_⟩
  obtain ⟨g, rfl, hg, hcell⟩ := h hN
  have hne : g ≠ R := fun e => by
    subst e
    obtain ⟨r, hr, a2, c2, e2, _⟩ := hcell 0 hN
    subst e2
    rw [h0] at hr
    cases hr
  refine ⟨g, rfl, by rw [World.size_setCell]; exact hg, fun i hi => ?_⟩
  obtain ⟨r, hr, a2, c2, rfl, hc2, hn⟩ := hcell i hi
  refine ⟨_, by rw [World.cell?_setCell_other _ _ _ _ (fun e => hne (by have := congrArg Addr.block e; simpa using this.symm))]; exact hr, a2, c2, rfl, hc2, fun hl => ?_⟩
  obtain ⟨g2, rfl, hg2, hcell2⟩ := hn hl
  have hne2 : g2 ≠ R := fun e => by
    subst e
    have := hcell2 0 hl
    rw [h0] at this
    cases this
  exact ⟨g2, rfl, by rw [World.size_setCell]; exact hg2, fun k hk => by rw [World.cell?_setCell_other _ _ _ _ (fun e => hne2 (by have := congrArg Addr.block e; simpa using this.symm))]; exact hcell2 k hk⟩

set_option maxHeartbeats 8000000 in
set_option maxRecDepth 100000 in
theorem rows_any (F gp cap : Nat) (ns : List Nd) (bs : List Nat) (w : World) (hf : FR w F gp cap ns bs) (hg : Good ns) :
    Calls Try.prog 48 #[.pointer (some ⟨F, 0, none⟩)] w fun e w' => ∃ R vs, e = .returned (.pointer (some ⟨R, 0, none⟩)) ∧ RowsM w' R F gp cap ns bs vs ∧ LiveSets ns vs.length (mOf vs) ∧ vs.length ≤ 256 ∧ Below w.heap.size w w' := by
  have SA := hid (sets_any F gp cap ns bs w hf hg)
  have NA := hid (fun (W : World) (vs : List Nat) (Bs : Nat) (v : Value) (h1 : Below w.heap.size w W) (h2 : SetL W Bs v ns.length vs) (h3 : vs.length ≤ 256) => net_any F gp cap Bs ns bs vs v W (hf.below h1) hg h2 h3)
  have EA := hid (fun (W : World) (P : Nat) => endless_sets ns hg P W)
  have HLS : Hid (∀ good : Nat → Bool, (∀ i, i < (vsTo ns (2 ^ ns.length)).length → (good i = true ↔ chain ns [] (mOf (vsTo ns (2 ^ ns.length)) i))) → LiveSets ns (pickV (vsTo ns (2 ^ ns.length)) good (vsTo ns (2 ^ ns.length)).length).length (mOf (pickV (vsTo ns (2 ^ ns.length)) good (vsTo ns (2 ^ ns.length)).length))) := hid (fun good h => live_sets hg.wf (all_sets hg.wf) h)
  have hle := sets_le hg
  have HFR := hid hf
  have hF := hf.lt0
  have hpos := hg.pos
  obtain ⟨i1, hi1, hz01, hz11, hz21⟩ := info_parts Try.infoSet
  clear hf hg
  generalize vsTo ns (2 ^ ns.length) = vs at *
  go_enter Try.func48, Try.ntmps48
  go_wp2_with fail
  refine SA.out.mono ?_
  rintro e w1 ⟨v, rfl, hset, hb1⟩
  have HSE := hid hset
  have HB1 := hid hb1
  have s1 := hb1.size
  clear SA hset hb1
  go_wp2_with fail
  refine (NA.out w1 vs w.heap.size v HB1.out HSE.out hle).mono ?_
  rintro e w2 ⟨rfl, hnet, hb2⟩
  have HNE := hid hnet
  have HB2 := hid (HB1.out.trans (hb2.mono s1))
  have HSE2 := hid (HSE.out.keeps hb2)
  have s2 := hb2.size
  clear hnet hb2 HSE
  go_wp2_with fail
  refine (EA.out w2 w1.heap.size HNE.out).mono ?_
  rintro e w3 ⟨ge, good, rfl, hge, OG, hgood, hb3⟩
  have HOG := hid OG
  have HGD := hid hgood
  have HB3 := hid (HB2.out.trans (hb3.mono (by omega)))
  have HSE3 := hid (HSE2.out.keeps hb3)
  have s3 := hb3.size
  have hgel := OG.blk.2
  clear OG hgood hb3 HSE2 EA HNE HB1 HB2
  obtain ⟨bb, so, sr⟩ := HSE3.out
  obtain ⟨ao, vcap, rfl⟩ := own_slice so
  have HSO := hid so
  have HSR := hid sr
  have HPL := hid (pick_len vs good)
  clear HSE3 so sr
  have HAL := hid (HLS.out good HGD.out)
  clear HLS HGD
  generalize hNE : vs.length = N at *
  have HNL := hid hNE
  clear hNE
  generalize hnE : ns.length = n at *
  have HnL := hid hnE
  clear hnE
  go_wp2_with fail
  go_loopw [6] (fun i wq => ∃ (j : Nat) (v1 : Value), j ≤ N ∧ i = .int .i64 j ∧ Three wq w3.heap.size (.pointer (some ⟨F, 0, none⟩)) v1 (.slice none 0 0) ∧ Hid (wq.ownsRow (w3.heap.size + 1) 105 1 v1 (idxG good j).length ((idxG good j).map fun q => setVal n (bb q))) ∧ Below w3.heap.size w3 wq) (fun i _ => N - (intOf i).toNat)
  case atStart => exact ⟨0, _, Nat.zero_le _, rfl, three_new w3 _ _ _ _, hid (World.ownsRow_nil _ _ _ _), (Below.refl _ _).alloc (Nat.le_refl _) _⟩
  case round =>
    obtain ⟨j, v1, hj, rfl, t3, HO, hb3⟩ := hrel
    have hR := t3.lt
    by_cases hlt : j < N
    · have og := (hb3.cell (p := ⟨ge, j, none⟩) hgel).trans (HOG.out.get hlt)
      have hil : (idxG good j).length ≤ j := by
        have := HPL.out j
        rw [idx_len] at this
        exact this
      cases hgj : good j with
      | false =>
        rw [hgj] at og
        have HIX : Hid (idxG good (j + 1) = idxG good j) := hid (idx_no hgj)
        clear hgj
        go_wp2_with fail
        go_roundw
        case rel => exact ⟨j + 1, v1, by omega, by go_num, t3, by rw [HIX.out]; exact HO, hb3⟩
        case measure => simp [intOf]; omega
      | true =>
        rw [hgj] at og
        have HIX : Hid ((idxG good (j + 1)).length = (idxG good j).length + 1 ∧ ((idxG good (j + 1)).map fun q => setVal n (bb q)) = ((idxG good j).map fun q => setVal n (bb q)) ++ [.slice (some ⟨bb j, 0, none⟩) n n]) := hid (by rw [idx_yes hgj]; simp [setVal])
        clear hgj
        obtain ⟨gs, e, _, hgs, _⟩ := own_at' HSO.out (by omega)
        subst e
        have cs : wr.cell? ⟨gs, j, none⟩ = some (.slice (some ⟨bb j, 0, none⟩) n n) := by
          rw [hb3.cell (p := ⟨gs, j, none⟩) hgs, HSO.out.cellAt j (by omega)]
          simp [List.getElem?_map, List.getElem?_range hlt, setVal]
        have own := HO.out
        have p1 := t3.c1
        have z1 : (0 : Int) ≤ (j : Int) := Int.natCast_nonneg _
        have z2 : (j : Int) < (N : Int) := by omega
        have ygs : gs < wr.heap.size := by omega
        clear HO
        go_wp2_with fail
        refine wp_region_held_drew (S := fun w' => w'.cell? ⟨gs, j, none⟩ = some (.slice (some ⟨bb j, 0, none⟩) n n)) (by kernel_rfl) cs (fun hHeld => ?_)
        refine wpAnyH_take (i := 0) (oi := { dst := some 26, op := Op.move (.tmp 5), type := _, pos := _, after := _, guard := none }) (v := (Value.pointer (some ⟨w3.heap.size, 0, none⟩))) rfl (by kernel_rfl) (by kernel_rfl) (by kernel_rfl) (fun _ _ _ h => h) (Or.inl ⟨by rfl, by intro w' hSw; (try dsimp only at hSw); go_simp⟩) (by assumption) ?_
        simp only [Act.put, List.setIfInBounds_toArray, List.set_cons_zero, List.set_cons_succ]
        refine wpAnyH_take (i := 1) (oi := { dst := some 27, op := Op.move (.tmp 5), type := _, pos := _, after := _, guard := none }) (v := (Value.pointer (some ⟨w3.heap.size, 0, none⟩))) rfl (by kernel_rfl) (by kernel_rfl) (by kernel_rfl) (fun _ _ _ h => h) (Or.inl ⟨by rfl, by intro w' hSw; (try dsimp only at hSw); go_simp⟩) (by assumption) ?_
        simp only [Act.put, List.setIfInBounds_toArray, List.set_cons_zero, List.set_cons_succ]
        refine wpAnyH_take (i := 2) (oi := { dst := some 28, op := Op.nilCheck (.tmp 27), type := _, pos := _, after := _, guard := none }) (v := (Value.pointer (some ⟨w3.heap.size, 0, none⟩))) rfl (by kernel_rfl) (by kernel_rfl) (by kernel_rfl) (fun _ _ _ h => h) (Or.inl ⟨by rfl, by intro w' hSw; (try dsimp only at hSw); go_simp⟩) (by assumption) ?_
        simp only [Act.put, List.setIfInBounds_toArray, List.set_cons_zero, List.set_cons_succ]
        refine wpAnyH_take (i := 3) (oi := { dst := some 29, op := Op.fieldAddr _ (.tmp 28) 1, type := _, pos := _, after := _, guard := none }) (v := (Value.pointer (some ⟨w3.heap.size, 1, none⟩))) rfl (by kernel_rfl) (by kernel_rfl) (by kernel_rfl) (fun _ _ _ h => h) (Or.inl ⟨by rfl, by intro w' hSw; (try dsimp only at hSw); go_simp⟩) (by assumption) ?_
        simp only [Act.put, List.setIfInBounds_toArray, List.set_cons_zero, List.set_cons_succ]
        refine wpAnyH_take (i := 5) (oi := { dst := some 31, op := Op.move (.tmp 3), type := _, pos := _, after := _, guard := none }) (v := (Value.slice (some ⟨gs, 0, none⟩) N vcap)) rfl (by kernel_rfl) (by kernel_rfl) (by kernel_rfl) (fun _ _ _ h => h) (Or.inl ⟨by rfl, by intro w' hSw; (try dsimp only at hSw); go_simp⟩) (by assumption) ?_
        simp only [Act.put, List.setIfInBounds_toArray, List.set_cons_zero, List.set_cons_succ]
        refine wpAnyH_take (i := 6) (oi := { dst := some 32, op := Op.move (.tmp 6), type := _, pos := _, after := _, guard := none }) (v := (Value.int .i64 (j : Nat))) rfl (by kernel_rfl) (by kernel_rfl) (by kernel_rfl) (fun _ _ _ h => h) (Or.inl ⟨by rfl, by intro w' hSw; (try dsimp only at hSw); go_simp⟩) (by assumption) ?_
        simp only [Act.put, List.setIfInBounds_toArray, List.set_cons_zero, List.set_cons_succ]
        refine wpAnyH_take (i := 7) (oi := { dst := some 33, op := Op.indexAddr _ (.tmp 31) (.tmp 32), type := _, pos := _, after := _, guard := none }) (v := (Value.pointer (some ⟨gs, j, none⟩))) rfl (by kernel_rfl) (by kernel_rfl) (by kernel_rfl) (fun _ _ _ h => h) (Or.inl ⟨by rfl, by intro w' hSw; (try dsimp only at hSw); go_simp⟩) (by assumption) ?_
        simp only [Act.put, List.setIfInBounds_toArray, List.set_cons_zero, List.set_cons_succ]
        refine wpAnyH_take (i := 8) (oi := { dst := some 34, op := Op.load _ (.tmp 33), type := _, pos := _, after := _, guard := none }) (v := (Value.slice (some ⟨bb j, 0, none⟩) n n)) rfl (by kernel_rfl) (by kernel_rfl) (by kernel_rfl) (fun _ _ _ h => h) (Or.inl ⟨by rfl, by intro w' hSw; (try dsimp only at hSw); go_simp⟩) (by assumption) ?_
        simp only [Act.put, List.setIfInBounds_toArray, List.set_cons_zero, List.set_cons_succ]
        refine wpAnyH_ready (rs := [4, 9]) (by kernel_rfl) (by simp) ?_
        refine AllReadyH.cons rfl (fun K hK => ?_) (AllReadyH.cons rfl (fun K hK => ?_) AllReadyH.nil)
        · go_simp
          refine hK.out _ _ (by assumption) (fun hHeld => ?_)
          clear hK K
          refine wpAnyH_ready (rs := [9]) (by kernel_rfl) (by simp) ?_
          refine AllReadyH.cons rfl (fun K hK => ?_) AllReadyH.nil
          go_simp
          refine hK.out _ _ ?hs (fun hHeld => ?_)
          case hs => first | go_keep | simp [*]
          clear hK K
          refine wpAnyH_ready (rs := [10]) (by kernel_rfl) (by simp) ?_
          refine AllReadyH.cons rfl (fun K hK => ?_) AllReadyH.nil
          refine step_append_lies _ (by rfl) (.tmp 30) (.tmp 35) 96 (by rfl) (w3.heap.size + 1) 105 i1 (.slice none 0 0) 1 24 Try.underlying96 hi1 hz01 hz11 hz21 rfl (by decide) _ (idxG good j).length ((idxG good j).map fun q => setVal n (bb q)) (by rfl) ((own.alloc _).drew) ⟨wr.heap.size, 0, none⟩ 1 1 [.slice (some ⟨bb j, 0, none⟩) n n] (by rfl) (by rfl) (World.news_of_block (cs := #[.slice (some ⟨bb j, 0, none⟩) n n]) (t := 105) (fr := (0, 0)) (heap_alloc_new wr _)) (by simp [Value.oneCell']) (by decide) (by unfold maxLen; omega) (by omega) (by simp; omega) (wr.heap.size + 1) (by simp) ?_
          intro gg cc w5 hown hgrow hat hlt2
          have bw2 : Below (w3.heap.size + 1) wr w5 := (below_drewN ((Below.refl (w3.heap.size + 1) wr).alloc (by omega) (.cells #[.slice (some ⟨bb j, 0, none⟩) n n] 105)) 1).grown hgrow (by show w3.heap.size + 1 ≤ (wr.alloc (.cells #[.slice (some ⟨bb j, 0, none⟩) n n] 105)).heap.size; rw [World.size_alloc]; omega) (fun x h => (own.lt x h).1)
          have s1 := t3.below bw2 (Nat.lt_succ_self _)
          have T5 := hid (s1.set1 (.slice (some ⟨gg, 0, none⟩) ((idxG good j).length + 1) cc))
          have O5 := hid (own_set_other hown (k := w3.heap.size) (Nat.lt_succ_self _) 1 (.slice (some ⟨gg, 0, none⟩) ((idxG good j).length + 1) cc))
          have BB := hid ((hb3.trans (bw2.mono (by omega))).setCell (p := ⟨w3.heap.size, 1, none⟩) (Nat.le_refl _) (.slice (some ⟨gg, 0, none⟩) ((idxG good j).length + 1) cc))
          have e1 := (bw2.cell (p := ⟨gs, j, none⟩) (by show gs < w3.heap.size + 1; omega)).trans cs
          have d0 := s1.c1
          have d1 := s1.fz 1 (by omega)
          have HS5 : Hid ((w5.setCell ⟨w3.heap.size, 1, none⟩ (.slice (some ⟨gg, 0, none⟩) ((idxG good j).length + 1) cc)).cell? ⟨gs, j, none⟩ = some (.slice (some ⟨bb j, 0, none⟩) n n)) := hid (by
            rw [World.cell?_setCell_other _ _ _ _ (fun e => by have := congrArg Addr.block e; simp at this; omega)]
            exact e1)
          refine hK.out _ _ e1 (fun hHeld => ?_)
          clear hK K bw2 hown hgrow hat s1 own
          simp only [Act.put, List.setIfInBounds_toArray]
          refine wpAnyH_take (i := 11) (oi := { dst := some 37, op := Op.nilCheck (.tmp 26), type := _, pos := _, after := _, guard := none }) (v := (Value.pointer (some ⟨w3.heap.size, 0, none⟩))) rfl (by kernel_rfl) (by kernel_rfl) (by kernel_rfl) (fun _ _ _ h => h) (Or.inl ⟨by rfl, by intro w' hSw; (try dsimp only at hSw); go_simp⟩) (by assumption) ?_
          simp only [Act.put]
          refine wpAnyH_take (i := 12) (oi := { dst := some 38, op := Op.fieldAddr _ (.tmp 37) 1, type := _, pos := _, after := _, guard := none }) (v := (Value.pointer (some ⟨w3.heap.size, 1, none⟩))) rfl (by kernel_rfl) (by kernel_rfl) (by kernel_rfl) (fun _ _ _ h => h) (Or.inl ⟨by rfl, by intro w' hSw; (try dsimp only at hSw); go_simp⟩) (by assumption) ?_
          simp only [Act.put]
          refine wpAnyH_ready (rs := [13]) (by kernel_rfl) (by simp) ?_
          refine AllReadyH.cons rfl (fun K hK => ?_) AllReadyH.nil
          go_simp
          refine hK.out _ _ HS5.out (fun hHeld => ?_)
          clear hK K
          refine wpAnyH_done (by kernel_rfl) ?_ _
          clear hHeld e1 d0 d1
          go_wp2_with fail
          go_roundw
          case rel => exact ⟨j + 1, _, by omega, by go_num, T5.out, by rw [HIX.out.1, HIX.out.2]; exact O5, BB.out⟩
          case measure => simp [intOf]; omega
        · go_simp
          refine hK.out _ _ ?hs (fun hHeld => ?_)
          case hs => first | go_keep | simp [*]
          clear hK K
          refine wpAnyH_ready (rs := [4]) (by kernel_rfl) (by simp) ?_
          refine AllReadyH.cons rfl (fun K hK => ?_) AllReadyH.nil
          go_simp
          refine hK.out _ _ (by assumption) (fun hHeld => ?_)
          clear hK K
          refine wpAnyH_ready (rs := [10]) (by kernel_rfl) (by simp) ?_
          refine AllReadyH.cons rfl (fun K hK => ?_) AllReadyH.nil
          refine step_append_lies _ (by rfl) (.tmp 30) (.tmp 35) 96 (by rfl) (w3.heap.size + 1) 105 i1 (.slice none 0 0) 1 24 Try.underlying96 hi1 hz01 hz11 hz21 rfl (by decide) _ (idxG good j).length ((idxG good j).map fun q => setVal n (bb q)) (by rfl) ((own.alloc _).drew) ⟨wr.heap.size, 0, none⟩ 1 1 [.slice (some ⟨bb j, 0, none⟩) n n] (by rfl) (by rfl) (World.news_of_block (cs := #[.slice (some ⟨bb j, 0, none⟩) n n]) (t := 105) (fr := (0, 0)) (heap_alloc_new wr _)) (by simp [Value.oneCell']) (by decide) (by unfold maxLen; omega) (by omega) (by simp; omega) (wr.heap.size + 1) (by simp) ?_
          intro gg cc w5 hown hgrow hat hlt2
          have bw2 : Below (w3.heap.size + 1) wr w5 := (below_drewN ((Below.refl (w3.heap.size + 1) wr).alloc (by omega) (.cells #[.slice (some ⟨bb j, 0, none⟩) n n] 105)) 1).grown hgrow (by show w3.heap.size + 1 ≤ (wr.alloc (.cells #[.slice (some ⟨bb j, 0, none⟩) n n] 105)).heap.size; rw [World.size_alloc]; omega) (fun x h => (own.lt x h).1)
          have s1 := t3.below bw2 (Nat.lt_succ_self _)
          have T5 := hid (s1.set1 (.slice (some ⟨gg, 0, none⟩) ((idxG good j).length + 1) cc))
          have O5 := hid (own_set_other hown (k := w3.heap.size) (Nat.lt_succ_self _) 1 (.slice (some ⟨gg, 0, none⟩) ((idxG good j).length + 1) cc))
          have BB := hid ((hb3.trans (bw2.mono (by omega))).setCell (p := ⟨w3.heap.size, 1, none⟩) (Nat.le_refl _) (.slice (some ⟨gg, 0, none⟩) ((idxG good j).length + 1) cc))
          have e1 := (bw2.cell (p := ⟨gs, j, none⟩) (by show gs < w3.heap.size + 1; omega)).trans cs
          have d0 := s1.c1
          have d1 := s1.fz 1 (by omega)
          have HS5 : Hid ((w5.setCell ⟨w3.heap.size, 1, none⟩ (.slice (some ⟨gg, 0, none⟩) ((idxG good j).length + 1) cc)).cell? ⟨gs, j, none⟩ = some (.slice (some ⟨bb j, 0, none⟩) n n)) := hid (by
            rw [World.cell?_setCell_other _ _ _ _ (fun e => by have := congrArg Addr.block e; simp at this; omega)]
            exact e1)
          refine hK.out _ _ e1 (fun hHeld => ?_)
          clear hK K bw2 hown hgrow hat s1 own
          simp only [Act.put, List.setIfInBounds_toArray]
          refine wpAnyH_take (i := 11) (oi := { dst := some 37, op := Op.nilCheck (.tmp 26), type := _, pos := _, after := _, guard := none }) (v := (Value.pointer (some ⟨w3.heap.size, 0, none⟩))) rfl (by kernel_rfl) (by kernel_rfl) (by kernel_rfl) (fun _ _ _ h => h) (Or.inl ⟨by rfl, by intro w' hSw; (try dsimp only at hSw); go_simp⟩) (by assumption) ?_
          simp only [Act.put]
          refine wpAnyH_take (i := 12) (oi := { dst := some 38, op := Op.fieldAddr _ (.tmp 37) 1, type := _, pos := _, after := _, guard := none }) (v := (Value.pointer (some ⟨w3.heap.size, 1, none⟩))) rfl (by kernel_rfl) (by kernel_rfl) (by kernel_rfl) (fun _ _ _ h => h) (Or.inl ⟨by rfl, by intro w' hSw; (try dsimp only at hSw); go_simp⟩) (by assumption) ?_
          simp only [Act.put]
          refine wpAnyH_ready (rs := [13]) (by kernel_rfl) (by simp) ?_
          refine AllReadyH.cons rfl (fun K hK => ?_) AllReadyH.nil
          go_simp
          refine hK.out _ _ HS5.out (fun hHeld => ?_)
          clear hK K
          refine wpAnyH_done (by kernel_rfl) ?_ _
          clear hHeld e1 d0 d1
          go_wp2_with fail
          go_roundw
          case rel => exact ⟨j + 1, _, by omega, by go_num, T5.out, by rw [HIX.out.1, HIX.out.2]; exact O5, BB.out⟩
          case measure => simp [intOf]; omega
    · obtain rfl : j = N := by omega
      have hbw := HB3.out.trans (hb3.mono HB3.out.size)
      have SL2 : Hid (SetL wr w.heap.size v1 n (pickV vs good j)) := hid (by
        have h := pick_setl (w := wr) (B := w.heap.size) (B1 := w3.heap.size + 1) (B2 := w.heap.size) (v := v1) (n := n) (vs := vs) (good := good) (bb := bb) (by omega) (Nat.le_refl _) (by rw [HNL.out]; exact HO.out) (fun i hi => own_keeps (HSR.out i (by rw [← HNL.out]; exact hi)) hb3)
        rw [HNL.out] at h
        exact h)
      have HPJ : (pickV vs good j).length ≤ 256 := Nat.le_trans (HPL.out j) hle
      have p1 := t3.c1
      have CN := hid (NA.out wr (pickV vs good j) w.heap.size v1 hbw SL2.out HPJ)
      have HBW := hid hbw
      have HT3 := hid t3
      clear t3
      go_wp2_with fail
      refine CN.out.mono ?_
      rintro e w5 ⟨rfl, hnet, hb5⟩
      obtain ⟨v2, c20, hnrs⟩ := hnet.c0
      obtain ⟨ao2, cap2, e2⟩ : ∃ ao2 cap2, v2 = .slice ao2 (pickV vs good j).length cap2 := by
        obtain ⟨a3, b3, e3, _⟩ := hnrs
        exact ⟨a3, b3, e3⟩
      subst e2
      have s5 := HT3.out.below hb5 hR
      have q2 := s5.c2
      have f2 := s5.fz 2 (by omega)
      have HN2 := hid (nrs_set2 hnrs s5.c0 (.slice ao2 (pickV vs good j).length cap2))
      have T6 := hid (s5.set2 (.slice ao2 (pickV vs good j).length cap2))
      have B36 := hid ((hb3.trans (hb5.mono (Nat.le_of_lt hR))).setCell (p := ⟨w3.heap.size, 2, none⟩) (Nat.le_refl _) (.slice ao2 (pickV vs good j).length cap2))
      have BW6 := hid (HB3.out.trans (B36.out.mono HB3.out.size))
      have O6 := hid (own_set_other (own_keeps HO.out hb5) (k := w3.heap.size) (Nat.lt_succ_self _) 2 (.slice ao2 (pickV vs good j).length cap2))
      have SL6 : Hid (SetL (w5.setCell ⟨w3.heap.size, 2, none⟩ (.slice ao2 (pickV vs good j).length cap2)) w.heap.size v1 n (pickV vs good j)) := hid (by
        have h := pick_setl (w := w5.setCell ⟨w3.heap.size, 2, none⟩ (.slice ao2 (pickV vs good j).length cap2)) (B := w.heap.size) (B1 := w3.heap.size + 1) (B2 := w.heap.size) (v := v1) (n := n) (vs := vs) (good := good) (bb := bb) (by omega) (Nat.le_refl _) (by rw [HNL.out]; exact O6.out) (fun i hi => own_keeps (HSR.out i (by rw [← HNL.out]; exact hi)) B36.out)
        rw [HNL.out] at h
        exact h)
      have RM : Hid (RowsM (w5.setCell ⟨w3.heap.size, 2, none⟩ (.slice ao2 (pickV vs good j).length cap2)) w3.heap.size F gp cap ns bs (pickV vs good j)) := hid ⟨T6.out.lt, HFR.out.below BW6.out, T6.out.c0, ⟨v1, T6.out.c1, by rw [HnL.out]; exact setl_brs hpos SL6.out⟩, ⟨_, T6.out.c2, HN2.out⟩⟩
      clear hnet hb5 hnrs s5 SL6 O6 HN2 T6 SL2 CN HO HT3
      go_wp2_with fail
      go_ret
      exact ⟨w3.heap.size, _, rfl, RM.out, HAL.out, HPJ, BW6.out⟩

end Go.Proofs.Ytjagijohfkffiab

/- The walk of the reference's Judge. -/
namespace Go.Proofs.Ytjagijohfkffiab
open Go.RowKit
set_option linter.unusedVariables false

section
variable (s : ByteArray) (a1 : Option Addr) (l1 c1 : Nat) (z1 : List Int) (w : World)

end

end Go.Proofs.Ytjagijohfkffiab
