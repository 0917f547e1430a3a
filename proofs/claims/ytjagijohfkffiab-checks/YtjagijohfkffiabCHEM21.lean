import Derived.Test.YtjagijohfkffiabCHEM11
import Derived.Deep.RegionHeld3

/- The walk of add, once more: what else stays. -/
namespace Go.Proofs.Ytjagijohfkffiab
open Go.RowKit
set_option linter.unusedVariables false

set_option maxHeartbeats 8000000 in
set_option maxRecDepth 100000 in
theorem wadd_more (T g2 n fr l to : Nat) (V : Nat → Value) (tl : Nat → List (Nat × Nat)) (w : World) (hm : WyM w T g2 n V tl) (hn : n ≤ 1099511627776) (hfr : fr < n) (hl : l < 8) (hto : to < n) (hlen : (tl to).length ≤ 1099511627776) :
    Calls Try.prog 112 #[.pointer (some ⟨T, 0, none⟩), .int .i64 fr, .int .i64 l, .int .i64 to] w fun e w' => e = .returned (.tuple #[]) ∧ (∃ V', WyM w' T g2 n V' (updW tl to (tl to ++ [(fr, l)])) ∧ ∀ NB, NB < w.heap.size → NB ≠ g2 → (∀ j, j < n → (V j).ownBlock ≠ some NB) → (∀ o, w'.cell? ⟨NB, o, none⟩ = w.cell? ⟨NB, o, none⟩) ∧ ∀ j, j < n → (V' j).ownBlock ≠ some NB) ∧ Below g2 w w' := by
  obtain ⟨i0, hi, hz0, hz1, hz2⟩ := info_parts Try.infoStep
  have cT := hm.cell
  have hT := hm.Tlt
  have hgT := hm.lt
  have own := hm.row to hto
  have cV : w.cell? ⟨g2, to, none⟩ = some (V to) := (hm.out.cellAt to (by omega)).trans (by simp [List.getElem?_map, List.getElem?_range hto])
  have HM := hid hm
  have hg2 : g2 < w.heap.size := by omega
  obtain ⟨ao, cp, eV⟩ := own_slice own
  have HV := hid eV
  rw [eV] at cV own
  generalize hln : (tl to).length = ln at *
  have HLN := hid hln
  have OW := hid own
  clear hm eV hln own
  go_enter Try.func112, Try.ntmps112
  go_wp2_with fail
  refine wp_region_held_drew (S := fun w' => w'.cell? ⟨T, 0, none⟩ = some (.slice (some ⟨g2, 0, none⟩) n n)) (by kernel_rfl) cT (fun hHeld => ?_)
  refine wpAnyH_take (i := 0) (oi := { dst := some 36, op := Op.move (.tmp 0), type := _, pos := _, after := _, guard := none }) (v := (Value.pointer (some ⟨T, 0, none⟩))) rfl (by kernel_rfl) (by kernel_rfl) (by kernel_rfl) (fun _ _ _ h => h) (Or.inl ⟨by rfl, by intro w' hSw; (try dsimp only at hSw); go_simp⟩) (by assumption) ?_
  simp only [Act.put, List.setIfInBounds_toArray, List.set_cons_zero, List.set_cons_succ]
  refine wpAnyH_take (i := 1) (oi := { dst := some 37, op := Op.nilCheck (.tmp 36), type := _, pos := _, after := _, guard := none }) (v := (Value.pointer (some ⟨T, 0, none⟩))) rfl (by kernel_rfl) (by kernel_rfl) (by kernel_rfl) (fun _ _ _ h => h) (Or.inl ⟨by rfl, by intro w' hSw; (try dsimp only at hSw); go_simp⟩) (by assumption) ?_
  simp only [Act.put, List.setIfInBounds_toArray, List.set_cons_zero, List.set_cons_succ]
  refine wpAnyH_take (i := 2) (oi := { dst := some 38, op := Op.fieldAddr _ (.tmp 37) 0, type := _, pos := _, after := _, guard := none }) (v := (Value.pointer (some ⟨T, 0, none⟩))) rfl (by kernel_rfl) (by kernel_rfl) (by kernel_rfl) (fun _ _ _ h => h) (Or.inl ⟨by rfl, by intro w' hSw; (try dsimp only at hSw); go_simp⟩) (by assumption) ?_
  simp only [Act.put, List.setIfInBounds_toArray, List.set_cons_zero, List.set_cons_succ]
  refine wpAnyH_take (i := 3) (oi := { dst := some 39, op := Op.load _ (.tmp 38), type := _, pos := _, after := _, guard := none }) (v := (Value.slice (some ⟨g2, 0, none⟩) n n)) rfl (by kernel_rfl) (by kernel_rfl) (by kernel_rfl) (fun _ _ _ h => h) (Or.inl ⟨by rfl, by intro w' hSw; (try dsimp only at hSw); go_simp⟩) (by assumption) ?_
  simp only [Act.put, List.setIfInBounds_toArray, List.set_cons_zero, List.set_cons_succ]
  refine wpAnyH_take (i := 4) (oi := { dst := some 40, op := Op.move (.tmp 3), type := _, pos := _, after := _, guard := none }) (v := (Value.int .i64 (to : Nat))) rfl (by kernel_rfl) (by kernel_rfl) (by kernel_rfl) (fun _ _ _ h => h) (Or.inl ⟨by rfl, by intro w' hSw; (try dsimp only at hSw); go_simp⟩) (by assumption) ?_
  simp only [Act.put, List.setIfInBounds_toArray, List.set_cons_zero, List.set_cons_succ]
  refine wpAnyH_take (i := 5) (oi := { dst := some 41, op := Op.move (.tmp 0), type := _, pos := _, after := _, guard := none }) (v := (Value.pointer (some ⟨T, 0, none⟩))) rfl (by kernel_rfl) (by kernel_rfl) (by kernel_rfl) (fun _ _ _ h => h) (Or.inl ⟨by rfl, by intro w' hSw; (try dsimp only at hSw); go_simp⟩) (by assumption) ?_
  simp only [Act.put, List.setIfInBounds_toArray, List.set_cons_zero, List.set_cons_succ]
  refine wpAnyH_take (i := 6) (oi := { dst := some 42, op := Op.nilCheck (.tmp 41), type := _, pos := _, after := _, guard := none }) (v := (Value.pointer (some ⟨T, 0, none⟩))) rfl (by kernel_rfl) (by kernel_rfl) (by kernel_rfl) (fun _ _ _ h => h) (Or.inl ⟨by rfl, by intro w' hSw; (try dsimp only at hSw); go_simp⟩) (by assumption) ?_
  simp only [Act.put, List.setIfInBounds_toArray, List.set_cons_zero, List.set_cons_succ]
  refine wpAnyH_take (i := 7) (oi := { dst := some 43, op := Op.fieldAddr _ (.tmp 42) 0, type := _, pos := _, after := _, guard := none }) (v := (Value.pointer (some ⟨T, 0, none⟩))) rfl (by kernel_rfl) (by kernel_rfl) (by kernel_rfl) (fun _ _ _ h => h) (Or.inl ⟨by rfl, by intro w' hSw; (try dsimp only at hSw); go_simp⟩) (by assumption) ?_
  simp only [Act.put, List.setIfInBounds_toArray, List.set_cons_zero, List.set_cons_succ]
  refine wpAnyH_take (i := 8) (oi := { dst := some 44, op := Op.load _ (.tmp 43), type := _, pos := _, after := _, guard := none }) (v := (Value.slice (some ⟨g2, 0, none⟩) n n)) rfl (by kernel_rfl) (by kernel_rfl) (by kernel_rfl) (fun _ _ _ h => h) (Or.inl ⟨by rfl, by intro w' hSw; (try dsimp only at hSw); go_simp⟩) (by assumption) ?_
  simp only [Act.put, List.setIfInBounds_toArray, List.set_cons_zero, List.set_cons_succ]
  refine wpAnyH_take (i := 9) (oi := { dst := some 45, op := Op.move (.tmp 3), type := _, pos := _, after := _, guard := none }) (v := (Value.int .i64 (to : Nat))) rfl (by kernel_rfl) (by kernel_rfl) (by kernel_rfl) (fun _ _ _ h => h) (Or.inl ⟨by rfl, by intro w' hSw; (try dsimp only at hSw); go_simp⟩) (by assumption) ?_
  simp only [Act.put, List.setIfInBounds_toArray, List.set_cons_zero, List.set_cons_succ]
  refine wpAnyH_take (i := 10) (oi := { dst := some 46, op := Op.indexAddr _ (.tmp 44) (.tmp 45), type := _, pos := _, after := _, guard := none }) (v := (Value.pointer (some ⟨g2, to, none⟩))) rfl (by kernel_rfl) (by kernel_rfl) (by kernel_rfl) (fun _ _ _ h => h) (Or.inl ⟨by rfl, by intro w' hSw; (try dsimp only at hSw); go_simp⟩) (by assumption) ?_
  simp only [Act.put, List.setIfInBounds_toArray, List.set_cons_zero, List.set_cons_succ]
  refine wpAnyH_take (i := 12) (oi := { dst := some 48, op := Op.move (.tmp 1), type := _, pos := _, after := _, guard := none }) (v := (Value.int .i64 (fr : Nat))) rfl (by kernel_rfl) (by kernel_rfl) (by kernel_rfl) (fun _ _ _ h => h) (Or.inl ⟨by rfl, by intro w' hSw; (try dsimp only at hSw); go_simp⟩) (by assumption) ?_
  simp only [Act.put, List.setIfInBounds_toArray, List.set_cons_zero, List.set_cons_succ]
  refine wpAnyH_take (i := 13) (oi := { dst := some 49, op := Op.move (.tmp 2), type := _, pos := _, after := _, guard := none }) (v := (Value.int .i64 (l : Nat))) rfl (by kernel_rfl) (by kernel_rfl) (by kernel_rfl) (fun _ _ _ h => h) (Or.inl ⟨by rfl, by intro w' hSw; (try dsimp only at hSw); go_simp⟩) (by assumption) ?_
  simp only [Act.put, List.setIfInBounds_toArray, List.set_cons_zero, List.set_cons_succ]
  refine wpAnyH_take (i := 14) (oi := { dst := some 50, op := Op.build _ #[(0, .tmp 48), (1, .tmp 49)], type := _, pos := _, after := _, guard := none }) (v := (Value.agg #[Value.int .i64 (fr : Nat), Value.int .i64 (l : Nat)])) rfl (by kernel_rfl) (by kernel_rfl) (by kernel_rfl) (fun _ _ _ h => h) (Or.inl ⟨by rfl, by intro w' hSw; (try dsimp only at hSw); go_simp⟩) (by assumption) ?_
  simp only [Act.put, List.setIfInBounds_toArray, List.set_cons_zero, List.set_cons_succ]
  refine wpAnyH_ready (rs := [11, 15]) (by kernel_rfl) (by simp) ?_
  refine AllReadyH.cons rfl (fun K hK => ?_) (AllReadyH.cons rfl (fun K hK => ?_) AllReadyH.nil)
  · go_simp
    refine hK.out _ _ (by assumption) (fun hHeld => ?_)
    clear hK K
    refine wpAnyH_ready (rs := [15]) (by kernel_rfl) (by simp) ?_
    refine AllReadyH.cons rfl (fun K hK => ?_) AllReadyH.nil
    go_simp
    refine hK.out _ _ ?hs (fun hHeld => ?_)
    case hs => first | go_keep | simp [*]
    clear hK K
    refine wpAnyH_ready (rs := [16]) (by kernel_rfl) (by simp) ?_
    refine AllReadyH.cons rfl (fun K hK => ?_) AllReadyH.nil
    refine step_append_lies _ (by rfl) (.tmp 47) (.tmp 51) 210 (by rfl) (T + 1) 212 i0 (.agg #[.int .i64 0, .int .i64 0]) 2 16 Try.underlying210 hi hz0 hz1 hz2 rfl (by decide) _ ln (flatW (tl to)) (by rfl) ((OW.out.alloc _).drew) ⟨w.heap.size, 0, none⟩ 1 1 [.int .i64 (fr : Nat), .int .i64 (l : Nat)] (by rfl) (by rfl) (World.news_of_block (cs := #[.int .i64 (fr : Nat), .int .i64 (l : Nat)]) (t := 212) (fr := (0, 0)) (heap_alloc_new w _)) (by simp [Value.oneCell']) (by decide) (by unfold maxLen; omega) (by omega) (by simp; omega) (w.heap.size + 1) (by simp) ?_
    intro gg cc w2 hown hgrow hat hlt2
    have HMA : WyM (w.alloc (.cells #[.int .i64 (fr : Nat), .int .i64 (l : Nat)] 212)).drew T g2 n V tl := HM.out.keeps (below_drewN ((Below.refl w.heap.size w).alloc (Nat.le_refl _) (.cells #[.int .i64 (fr : Nat), .int .i64 (l : Nat)] 212)) 1)
    have hgrow' : (w.alloc (.cells #[.int .i64 (fr : Nat), .int .i64 (l : Nat)] 212)).drew.grownBy w2 (V to).ownBlock := by rw [HV.out]; exact hgrow
    have O2 := HMA.out.kept hgrow' (own_ne' HMA.out (HMA.row to hto) (by decide))
    have d1 := O2.frozenAt to
    have d0 : w2.cell? ⟨g2, to, none⟩ = some (V to) := (O2.cellAt to (by omega)).trans (by simp [List.getElem?_map, List.getElem?_range hto])
    have bw2 : Below (T + 1) w w2 := (below_drewN ((Below.refl (T + 1) w).alloc (by omega) (.cells #[.int .i64 (fr : Nat), .int .i64 (l : Nat)] 212)) 1).grown hgrow (by show T + 1 ≤ (w.alloc (.cells #[.int .i64 (fr : Nat), .int .i64 (l : Nat)] 212)).heap.size; rw [World.size_alloc]; omega) (fun x h => (OW.out.lt x h).1)
    have TM := hid (wym_push HMA hto (s := (fr, l)) hgrow' (by rw [HLN.out]; exact hown) (by rw [HV.out]; rcases hat with h | h; exact Or.inl h; exact Or.inr (by rw [h]; exact (World.size_alloc ..).symm)))
    rw [HLN.out] at TM
    have BB := hid ((bw2.mono (by omega : g2 ≤ T + 1)).setCell (p := ⟨g2, to, none⟩) (Nat.le_refl _) (.slice (some ⟨gg, 0, none⟩) (ln + 1) cc))
    have MORE : Hid (∀ NB, NB < w.heap.size → NB ≠ g2 → (∀ j, j < n → (V j).ownBlock ≠ some NB) → (∀ o, (w2.setCell ⟨g2, to, none⟩ (.slice (some ⟨gg, 0, none⟩) (ln + 1) cc)).cell? ⟨NB, o, none⟩ = w.cell? ⟨NB, o, none⟩) ∧ ∀ j, j < n → ((fun i => if i = to then Value.slice (some ⟨gg, 0, none⟩) (ln + 1) cc else V i) j).ownBlock ≠ some NB) := hid (fun NB h1 h2 h3 => by
      refine ⟨fun o => ?_, fun j hj => ?_⟩
      · rw [World.cell?_setCell_other _ _ _ _ (fun e => h2 (by have := congrArg Addr.block e; simpa using this.symm))]
        rw [hgrow'.cell_far ⟨NB, o, none⟩ (by show NB < (w.alloc (.cells #[.int .i64 (fr : Nat), .int .i64 (l : Nat)] 212)).heap.size; rw [World.size_alloc]; omega) (fun e => h3 to hto e.symm)]
        show (w.alloc (.cells #[.int .i64 (fr : Nat), .int .i64 (l : Nat)] 212)).cell? ⟨NB, o, none⟩ = _
        rw [World.cell?_alloc_lt _ _ _ h1]
      · by_cases e : j = to
        · simp only [e, if_true]
          rcases hat with h | h
          · intro e2
            have h4 := h3 to hto
            rw [HV.out, h] at h4
            exact h4 e2
          · intro e2
            simp [Value.ownBlock] at e2
            omega
        · simp only [e, if_false]
          exact h3 j hj)
    have e1 : w2.cell? ⟨T, 0, none⟩ = some (.slice (some ⟨g2, 0, none⟩) n n) := (bw2.cell (p := ⟨T, 0, none⟩) (Nat.lt_succ_self _)).trans cT
    have HS5 := hid (TM.out.cell)
    refine hK.out _ _ e1 (fun hHeld => ?_)
    clear hK K O2 HMA bw2 hown hgrow hgrow' hat
    simp only [Act.put, List.setIfInBounds_toArray]
    refine wpAnyH_take (i := 17) (oi := { dst := some 53, op := Op.indexAddr _ (.tmp 39) (.tmp 40), type := _, pos := _, after := _, guard := none }) (v := (Value.pointer (some ⟨g2, to, none⟩))) rfl (by kernel_rfl) (by kernel_rfl) (by kernel_rfl) (fun _ _ _ h => h) (Or.inl ⟨by rfl, by intro w' hSw; (try dsimp only at hSw); go_simp⟩) (by assumption) ?_
    simp only [Act.put]
    refine wpAnyH_ready (rs := [18]) (by kernel_rfl) (by simp) ?_
    refine AllReadyH.cons rfl (fun K hK => ?_) AllReadyH.nil
    go_simp
    refine hK.out _ _ HS5.out (fun hHeld => ?_)
    clear hK K
    refine wpAnyH_done (by kernel_rfl) ?_ _
    clear hHeld e1 d0 d1
    go_wp2_with fail
    go_end0
    exact ⟨rfl, ⟨_, TM.out, MORE.out⟩, BB.out⟩
  · go_simp
    refine hK.out _ _ ?hs (fun hHeld => ?_)
    case hs => first | go_keep | simp [*]
    clear hK K
    refine wpAnyH_ready (rs := [11]) (by kernel_rfl) (by simp) ?_
    refine AllReadyH.cons rfl (fun K hK => ?_) AllReadyH.nil
    go_simp
    refine hK.out _ _ (by assumption) (fun hHeld => ?_)
    clear hK K
    refine wpAnyH_ready (rs := [16]) (by kernel_rfl) (by simp) ?_
    refine AllReadyH.cons rfl (fun K hK => ?_) AllReadyH.nil
    refine step_append_lies _ (by rfl) (.tmp 47) (.tmp 51) 210 (by rfl) (T + 1) 212 i0 (.agg #[.int .i64 0, .int .i64 0]) 2 16 Try.underlying210 hi hz0 hz1 hz2 rfl (by decide) _ ln (flatW (tl to)) (by rfl) ((OW.out.alloc _).drew) ⟨w.heap.size, 0, none⟩ 1 1 [.int .i64 (fr : Nat), .int .i64 (l : Nat)] (by rfl) (by rfl) (World.news_of_block (cs := #[.int .i64 (fr : Nat), .int .i64 (l : Nat)]) (t := 212) (fr := (0, 0)) (heap_alloc_new w _)) (by simp [Value.oneCell']) (by decide) (by unfold maxLen; omega) (by omega) (by simp; omega) (w.heap.size + 1) (by simp) ?_
    intro gg cc w2 hown hgrow hat hlt2
    have HMA : WyM (w.alloc (.cells #[.int .i64 (fr : Nat), .int .i64 (l : Nat)] 212)).drew T g2 n V tl := HM.out.keeps (below_drewN ((Below.refl w.heap.size w).alloc (Nat.le_refl _) (.cells #[.int .i64 (fr : Nat), .int .i64 (l : Nat)] 212)) 1)
    have hgrow' : (w.alloc (.cells #[.int .i64 (fr : Nat), .int .i64 (l : Nat)] 212)).drew.grownBy w2 (V to).ownBlock := by rw [HV.out]; exact hgrow
    have O2 := HMA.out.kept hgrow' (own_ne' HMA.out (HMA.row to hto) (by decide))
    have d1 := O2.frozenAt to
    have d0 : w2.cell? ⟨g2, to, none⟩ = some (V to) := (O2.cellAt to (by omega)).trans (by simp [List.getElem?_map, List.getElem?_range hto])
    have bw2 : Below (T + 1) w w2 := (below_drewN ((Below.refl (T + 1) w).alloc (by omega) (.cells #[.int .i64 (fr : Nat), .int .i64 (l : Nat)] 212)) 1).grown hgrow (by show T + 1 ≤ (w.alloc (.cells #[.int .i64 (fr : Nat), .int .i64 (l : Nat)] 212)).heap.size; rw [World.size_alloc]; omega) (fun x h => (OW.out.lt x h).1)
    have TM := hid (wym_push HMA hto (s := (fr, l)) hgrow' (by rw [HLN.out]; exact hown) (by rw [HV.out]; rcases hat with h | h; exact Or.inl h; exact Or.inr (by rw [h]; exact (World.size_alloc ..).symm)))
    rw [HLN.out] at TM
    have BB := hid ((bw2.mono (by omega : g2 ≤ T + 1)).setCell (p := ⟨g2, to, none⟩) (Nat.le_refl _) (.slice (some ⟨gg, 0, none⟩) (ln + 1) cc))
    have MORE : Hid (∀ NB, NB < w.heap.size → NB ≠ g2 → (∀ j, j < n → (V j).ownBlock ≠ some NB) → (∀ o, (w2.setCell ⟨g2, to, none⟩ (.slice (some ⟨gg, 0, none⟩) (ln + 1) cc)).cell? ⟨NB, o, none⟩ = w.cell? ⟨NB, o, none⟩) ∧ ∀ j, j < n → ((fun i => if i = to then Value.slice (some ⟨gg, 0, none⟩) (ln + 1) cc else V i) j).ownBlock ≠ some NB) := hid (fun NB h1 h2 h3 => by
      refine ⟨fun o => ?_, fun j hj => ?_⟩
      · rw [World.cell?_setCell_other _ _ _ _ (fun e => h2 (by have := congrArg Addr.block e; simpa using this.symm))]
        rw [hgrow'.cell_far ⟨NB, o, none⟩ (by show NB < (w.alloc (.cells #[.int .i64 (fr : Nat), .int .i64 (l : Nat)] 212)).heap.size; rw [World.size_alloc]; omega) (fun e => h3 to hto e.symm)]
        show (w.alloc (.cells #[.int .i64 (fr : Nat), .int .i64 (l : Nat)] 212)).cell? ⟨NB, o, none⟩ = _
        rw [World.cell?_alloc_lt _ _ _ h1]
      · by_cases e : j = to
        · simp only [e, if_true]
          rcases hat with h | h
          · intro e2
            have h4 := h3 to hto
            rw [HV.out, h] at h4
            exact h4 e2
          · intro e2
            simp [Value.ownBlock] at e2
            omega
        · simp only [e, if_false]
          exact h3 j hj)
    have e1 : w2.cell? ⟨T, 0, none⟩ = some (.slice (some ⟨g2, 0, none⟩) n n) := (bw2.cell (p := ⟨T, 0, none⟩) (Nat.lt_succ_self _)).trans cT
    have HS5 := hid (TM.out.cell)
    refine hK.out _ _ e1 (fun hHeld => ?_)
    clear hK K O2 HMA bw2 hown hgrow hgrow' hat
    simp only [Act.put, List.setIfInBounds_toArray]
    refine wpAnyH_take (i := 17) (oi := { dst := some 53, op := Op.indexAddr _ (.tmp 39) (.tmp 40), type := _, pos := _, after := _, guard := none }) (v := (Value.pointer (some ⟨g2, to, none⟩))) rfl (by kernel_rfl) (by kernel_rfl) (by kernel_rfl) (fun _ _ _ h => h) (Or.inl ⟨by rfl, by intro w' hSw; (try dsimp only at hSw); go_simp⟩) (by assumption) ?_
    simp only [Act.put]
    refine wpAnyH_ready (rs := [18]) (by kernel_rfl) (by simp) ?_
    refine AllReadyH.cons rfl (fun K hK => ?_) AllReadyH.nil
    go_simp
    refine hK.out _ _ HS5.out (fun hHeld => ?_)
    clear hK K
    refine wpAnyH_done (by kernel_rfl) ?_ _
    clear hHeld e1 d0 d1
    go_wp2_with fail
    go_end0
    exact ⟨rfl, ⟨_, TM.out, MORE.out⟩, BB.out⟩

end Go.Proofs.Ytjagijohfkffiab
