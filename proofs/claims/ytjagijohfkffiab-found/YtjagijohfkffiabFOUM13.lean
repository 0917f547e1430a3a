import Derived.Test.YtjagijohfkffiabFOUM12

/- The ways as they are made, and the walks of add, anyWay (laid by gen_ways.py). -/
namespace Go.Proofs.Ytjagijohfkffiab
open Go.RowKit
set_option linter.unusedVariables false

def flatW (ws : List (Nat × Nat)) : List Value := ws.flatMap fun s => [.int .i64 (s.1 : Nat), .int .i64 (s.2 : Nat)]
theorem flatW_snoc (ws : List (Nat × Nat)) (s : Nat × Nat) : flatW (ws ++ [s]) = flatW ws ++ [.int .i64 (s.1 : Nat), .int .i64 (s.2 : Nat)] := by simp [flatW]
theorem flatW_get {ws : List (Nat × Nat)} {i : Nat} {s : Nat × Nat} (h : ws[i]? = some s) : (flatW ws)[i * 2]? = some (.int .i64 (s.1 : Nat)) ∧ (flatW ws)[i * 2 + 1]? = some (.int .i64 (s.2 : Nat)) := by
  induction ws generalizing i with
  | nil => simp at h
  | cons p ps ih =>
    cases i with
    | zero => simp at h; subst h; simp [flatW]
    | succ i =>
      have := ih (by simpa using h)
      rw [show flatW (p :: ps) = [.int .i64 (p.1 : Nat), .int .i64 (p.2 : Nat)] ++ flatW ps by simp [flatW]]
      rw [List.getElem?_append_right (by simp; omega), List.getElem?_append_right (by simp; omega)]
      simpa [show (i + 1) * 2 - 2 = i * 2 by omega, show (i + 1) * 2 + 1 - 2 = i * 2 + 1 by omega] using this

def updW (f : Nat → List (Nat × Nat)) (b : Nat) (l : List (Nat × Nat)) : Nat → List (Nat × Nat) := fun i => if i = b then l else f i

theorem range_setV (V : Nat → Value) (N b : Nat) (x : Value) : ((List.range N).map V).set b x = (List.range N).map (fun i => if i = b then x else V i) := by
  apply List.ext_getElem
  · simp
  · intro i h1 h2
    simp at h1
    rw [List.getElem_set]
    simp only [List.getElem_map, List.getElem_range]
    by_cases e : b = i
    · rw [if_pos e, if_pos e.symm]
    · rw [if_neg e, if_neg (fun h => e h.symm)]

/-- The ways while they are made: each list in a row of its own. -/
structure WyM (w : World) (T g2 n : Nat) (V : Nat → Value) (tl : Nat → List (Nat × Nat)) : Prop where
  lt : g2 < T
  cell : w.cell? ⟨T, 0, none⟩ = some (.slice (some ⟨g2, 0, none⟩) n n)
  out : w.ownsRow g2 210 1 (.slice (some ⟨g2, 0, none⟩) n n) n ((List.range n).map V)
  row : ∀ j, j < n → w.ownsRow (T + 1) 212 2 (V j) (tl j).length (flatW (tl j))
  sep : ∀ i j, i < n → j < n → i ≠ j → (V i).ownBlock = none ∨ (V i).ownBlock ≠ (V j).ownBlock
theorem WyM.Tlt {w : World} {T g2 n : Nat} {V : Nat → Value} {tl : Nat → List (Nat × Nat)} (h : WyM w T g2 n V tl) : T < w.heap.size := World.block_lt_of_cell? w ⟨T, 0, none⟩ h.cell
theorem WyM.keeps {w w' : World} {T g2 n : Nat} {V : Nat → Value} {tl : Nat → List (Nat × Nat)} (h : WyM w T g2 n V tl) (hb : Below w.heap.size w w') : WyM w' T g2 n V tl :=
  ⟨h.lt, (hb.cell (p := ⟨T, 0, none⟩) h.Tlt).trans h.cell, own_keeps h.out hb, fun j hj => own_keeps (h.row j hj) hb, h.sep⟩

theorem wym_push {w w1 : World} {T g2 n : Nat} {V : Nat → Value} {tl : Nat → List (Nat × Nat)} (h : WyM w T g2 n V tl) {b gg cc : Nat} {s : Nat × Nat} (hb : b < n) (hgrow : w.grownBy w1 (V b).ownBlock)
    (hown : w1.ownsRow (T + 1) 212 2 (.slice (some ⟨gg, 0, none⟩) ((tl b).length + 1) cc) ((tl b).length + 1) (flatW (tl b) ++ [.int .i64 (s.1 : Nat), .int .i64 (s.2 : Nat)])) (hat : (V b).ownBlock = some gg ∨ gg = w.heap.size) :
    WyM (w1.setCell ⟨g2, b, none⟩ (.slice (some ⟨gg, 0, none⟩) ((tl b).length + 1) cc)) T g2 n (fun i => if i = b then .slice (some ⟨gg, 0, none⟩) ((tl b).length + 1) cc else V i) (updW tl b (tl b ++ [s])) := by
  have hT := h.Tlt
  have hlt := h.lt
  have key : ∀ j, j < n → j ≠ b → (V j).ownBlock = none ∨ (V j).ownBlock ≠ some gg := by
    intro j hj hne
    rcases hat with e | e
    · rw [← e]; exact h.sep j b hj hb hne
    · cases ho : (V j).ownBlock with
      | none => exact Or.inl rfl
      | some q =>
        have := ((h.row j hj).lt q ho).2
        exact Or.inr (fun e2 => by cases e2; omega)
  have ho1 := h.out.kept hgrow (own_ne' h.out (h.row b hb) (by decide))
  have hset := ho1.stored b (.slice (some ⟨gg, 0, none⟩) ((tl b).length + 1) cc)
  rw [range_setV] at hset
  have hne : ∀ (v : Value) (n : Nat) (xs : List Value), w1.ownsRow (T + 1) 212 2 v n xs → (w1.setCell ⟨g2, b, none⟩ (.slice (some ⟨gg, 0, none⟩) ((tl b).length + 1) cc)).ownsRow (T + 1) 212 2 v n xs := by
    intro v n xs hv
    exact hv.kept hset.2 (own_ne' hv ho1 (by decide))
  have hc : w1.cell? ⟨T, 0, none⟩ = some (.slice (some ⟨g2, 0, none⟩) n n) := hgrow.cell h.cell (fun e => by
    have := ((h.row b hb).lt T e.symm).1
    omega)
  refine ⟨h.lt, ?_, hset.1, fun j hj => ?_, fun i j hi hj hij => ?_⟩
  · rw [World.cell?_setCell_other _ _ _ _ (fun e => by have := congrArg Addr.block e; simp at this; omega)]
    exact hc
  · unfold updW
    by_cases e : j = b
    · subst e
      simp only [if_true]
      have := hne _ _ _ hown
      rw [← flatW_snoc] at this
      rw [List.length_append, List.length_singleton]
      exact this
    · simp only [if_neg e]
      exact hne _ _ _ ((h.row j hj).kept hgrow (h.sep j b hj hb e))
  · by_cases e1 : i = b
    · have e2 : j ≠ b := fun e => hij (e1.trans e.symm)
      simp only [if_pos e1, if_neg e2]
      right
      intro e
      rcases key j hj e2 with k | k
      · rw [k] at e; simp [Value.ownBlock] at e
      · exact k e.symm
    · by_cases e2 : j = b
      · simp only [if_neg e1, if_pos e2]
        exact key i hi e1
      · simp only [if_neg e1, if_neg e2]
        exact h.sep i j hi hj hij

/-- What has been made can be read. -/
theorem WyM.ways {w : World} {T g2 n : Nat} {V : Nat → Value} {tl : Nat → List (Nat × Nat)} (h : WyM w T g2 n V tl) : WaysM w g2 n tl := by
  refine ⟨(h.out.lt _ rfl).2, fun t ht => ?_⟩
  obtain ⟨ao, cap, e⟩ := own_slice (h.row t ht)
  refine ⟨ao, cap, ?_, fun h0 => ?_⟩
  · rw [h.out.cellAt t (by omega)]; simp [List.getElem?_map, List.getElem?_range ht, e]
  · have hr := h.row t ht
    rw [e] at hr
    obtain ⟨gr, e2, h1, h2, h3⟩ := own_at' hr h0
    subst e2
    refine ⟨gr, rfl, h2, fun j st hj => ?_⟩
    have hl := (List.getElem?_eq_some_iff.1 hj).1
    exact ⟨(hr.cellAt (j * 2) (by omega)).trans (flatW_get hj).1, (hr.cellAt (j * 2 + 1) (by omega)).trans (flatW_get hj).2⟩

theorem Try.infoStep : (Try.prog.info? 212).map (fun i => (i.zero, i.size, i.bytes)) = some (some (.agg #[.int .i64 0, .int .i64 0]), 2, 16) := by kernel_rfl

set_option maxHeartbeats 8000000 in
set_option maxRecDepth 100000 in
theorem wadd_any (T g2 n fr l to : Nat) (V : Nat → Value) (tl : Nat → List (Nat × Nat)) (w : World) (hm : WyM w T g2 n V tl) (hn : n ≤ 1099511627776) (hfr : fr < n) (hl : l < 8) (hto : to < n) (hlen : (tl to).length ≤ 1099511627776) :
    Calls Try.prog 112 #[.pointer (some ⟨T, 0, none⟩), .int .i64 fr, .int .i64 l, .int .i64 to] w fun e w' => e = .returned (.tuple #[]) ∧ (∃ V', WyM w' T g2 n V' (updW tl to (tl to ++ [(fr, l)]))) ∧ Below g2 w w' := by
  obtain ⟨i0, hi, hz0, hz1, hz2⟩ := info_parts Try.infoStep
  have cT := hm.cell
  have hT := hm.Tlt
  have hgT := hm.lt
  have own := hm.row to hto
  have cV : w.cell? ⟨g2, to, none⟩ = some (V to) := (hm.out.cellAt to (by omega)).trans (by simp [List.getElem?_map, List.getElem?_range hto])
  have HM := hid hm
  have hg2 : g2 < w.heap.size := by omega
  obtain ⟨ao, cp, eV⟩ := own_slice own
  have HV := hid eV
  rw [eV] at cV own
  generalize hln : (tl to).length = ln at *
  have HLN := hid hln
  have OW := hid own
  clear hm eV hln own
  go_enter Try.func112, Try.ntmps112
  go_wp2_with fail
  refine wp_region_held_drew (S := fun w' => w'.cell? ⟨T, 0, none⟩ = some (.slice (some ⟨g2, 0, none⟩) n n)) (by kernel_rfl) cT (fun hHeld => ?_)
  refine wpAnyH_take (i := 0) (oi := { dst := some 36, op := Op.move (.tmp 0), type := _, pos := _, after := _, guard := none }) (v := (Value.pointer (some ⟨T, 0, none⟩))) rfl (by kernel_rfl) (by kernel_rfl) (by kernel_rfl) (fun _ _ _ h => h) (Or.inl ⟨by rfl, by intro w' hSw; (try dsimp only at hSw); go_simp⟩) (by assumption) ?_
  simp only [Act.put, List.setIfInBounds_toArray, List.set_cons_zero, List.set_cons_succ]
  refine wpAnyH_take (i := 1) (oi := { dst := some 37, op := Op.nilCheck (.tmp 36), type := _, pos := _, after := _, guard := none }) (v := (Value.pointer (some ⟨T, 0, none⟩))) rfl (by kernel_rfl) (by kernel_rfl) (by kernel_rfl) (fun _ _ _ h => h) (Or.inl ⟨by rfl, by intro w' hSw; (try dsimp only at hSw); go_simp⟩) (by assumption) ?_
  simp only [Act.put, List.setIfInBounds_toArray, List.set_cons_zero, List.set_cons_succ]
  refine wpAnyH_take (i := 2) (oi := { dst := some 38, op := Op.fieldAddr _ (.tmp 37) 0, type := _, pos := _, after := _, guard := none }) (v := (Value.pointer (some ⟨T, 0, none⟩))) rfl (by kernel_rfl) (by kernel_rfl) (by kernel_rfl) (fun _ _ _ h => h) (Or.inl ⟨by rfl, by intro w' hSw; (try dsimp only at hSw); go_simp⟩) (by assumption) ?_
  simp only [Act.put, List.setIfInBounds_toArray, List.set_cons_zero, List.set_cons_succ]
  refine wpAnyH_take (i := 3) (oi := { dst := some 39, op := Op.load _ (.tmp 38), type := _, pos := _, after := _, guard := none }) (v := (Value.slice (some ⟨g2, 0, none⟩) n n)) rfl (by kernel_rfl) (by kernel_rfl) (by kernel_rfl) (fun _ _ _ h => h) (Or.inl ⟨by rfl, by intro w' hSw; (try dsimp only at hSw); go_simp⟩) (by assumption) ?_
  simp only [Act.put, List.setIfInBounds_toArray, List.set_cons_zero, List.set_cons_succ]
  refine wpAnyH_take (i := 4) (oi := { dst := some 40, op := Op.move (.tmp 3), type := _, pos := _, after := _, guard := none }) (v := (Value.int .i64 (to : Nat))) rfl (by kernel_rfl) (by kernel_rfl) (by kernel_rfl) (fun _ _ _ h => h) (Or.inl ⟨by rfl, by intro w' hSw; (try dsimp only at hSw); go_simp⟩) (by assumption) ?_
  simp only [Act.put, List.setIfInBounds_toArray, List.set_cons_zero, List.set_cons_succ]
  refine wpAnyH_take (i := 5) (oi := { dst := some 41, op := Op.move (.tmp 0), type := _, pos := _, after := _, guard := none }) (v := (Value.pointer (some ⟨T, 0, none⟩))) rfl (by kernel_rfl) (by kernel_rfl) (by kernel_rfl) (fun _ _ _ h => h) (Or.inl ⟨by rfl, by intro w' hSw; (try dsimp only at hSw); go_simp⟩) (by assumption) ?_
  simp only [Act.put, List.setIfInBounds_toArray, List.set_cons_zero, List.set_cons_succ]
  refine wpAnyH_take (i := 6) (oi := { dst := some 42, op := Op.nilCheck (.tmp 41), type := _, pos := _, after := _, guard := none }) (v := (Value.pointer (some ⟨T, 0, none⟩))) rfl (by kernel_rfl) (by kernel_rfl) (by kernel_rfl) (fun _ _ _ h => h) (Or.inl ⟨by rfl, by intro w' hSw; (try dsimp only at hSw); go_simp⟩) (by assumption) ?_
  simp only [Act.put, List.setIfInBounds_toArray, List.set_cons_zero, List.set_cons_succ]
  refine wpAnyH_take (i := 7) (oi := { dst := some 43, op := Op.fieldAddr _ (.tmp 42) 0, type := _, pos := _, after := _, guard := none }) (v := (Value.pointer (some ⟨T, 0, none⟩))) rfl (by kernel_rfl) (by kernel_rfl) (by kernel_rfl) (fun _ _ _ h => h) (Or.inl ⟨by rfl, by intro w' hSw; (try dsimp only at hSw); go_simp⟩) (by assumption) ?_
  simp only [Act.put, List.setIfInBounds_toArray, List.set_cons_zero, List.set_cons_succ]
  refine wpAnyH_take (i := 8) (oi := { dst := some 44, op := Op.load _ (.tmp 43), type := _, pos := _, after := _, guard := none }) (v := (Value.slice (some ⟨g2, 0, none⟩) n n)) rfl (by kernel_rfl) (by kernel_rfl) (by kernel_rfl) (fun _ _ _ h => h) (Or.inl ⟨by rfl, by intro w' hSw; (try dsimp only at hSw); go_simp⟩) (by assumption) ?_
  simp only [Act.put, List.setIfInBounds_toArray, List.set_cons_zero, List.set_cons_succ]
  refine wpAnyH_take (i := 9) (oi := { dst := some 45, op := Op.move (.tmp 3), type := _, pos := _, after := _, guard := none }) (v := (Value.int .i64 (to : Nat))) rfl (by kernel_rfl) (by kernel_rfl) (by kernel_rfl) (fun _ _ _ h => h) (Or.inl ⟨by rfl, by intro w' hSw; (try dsimp only at hSw); go_simp⟩) (by assumption) ?_
  simp only [Act.put, List.setIfInBounds_toArray, List.set_cons_zero, List.set_cons_succ]
  refine wpAnyH_take (i := 10) (oi := { dst := some 46, op := Op.indexAddr _ (.tmp 44) (.tmp 45), type := _, pos := _, after := _, guard := none }) (v := (Value.pointer (some ⟨g2, to, none⟩))) rfl (by kernel_rfl) (by kernel_rfl) (by kernel_rfl) (fun _ _ _ h => h) (Or.inl ⟨by rfl, by intro w' hSw; (try dsimp only at hSw); go_simp⟩) (by assumption) ?_
  simp only [Act.put, List.setIfInBounds_toArray, List.set_cons_zero, List.set_cons_succ]
  refine wpAnyH_take (i := 12) (oi := { dst := some 48, op := Op.move (.tmp 1), type := _, pos := _, after := _, guard := none }) (v := (Value.int .i64 (fr : Nat))) rfl (by kernel_rfl) (by kernel_rfl) (by kernel_rfl) (fun _ _ _ h => h) (Or.inl ⟨by rfl, by intro w' hSw; (try dsimp only at hSw); go_simp⟩) (by assumption) ?_
  simp only [Act.put, List.setIfInBounds_toArray, List.set_cons_zero, List.set_cons_succ]
  refine wpAnyH_take (i := 13) (oi := { dst := some 49, op := Op.move (.tmp 2), type := _, pos := _, after := _, guard := none }) (v := (Value.int .i64 (l : Nat))) rfl (by kernel_rfl) (by kernel_rfl) (by kernel_rfl) (fun _ _ _ h => h) (Or.inl ⟨by rfl, by intro w' hSw; (try dsimp only at hSw); go_simp⟩) (by assumption) ?_
  simp only [Act.put, List.setIfInBounds_toArray, List.set_cons_zero, List.set_cons_succ]
  refine wpAnyH_take (i := 14) (oi := { dst := some 50, op := Op.build _ #[(0, .tmp 48), (1, .tmp 49)], type := _, pos := _, after := _, guard := none }) (v := (Value.agg #[Value.int .i64 (fr : Nat), Value.int .i64 (l : Nat)])) rfl (by kernel_rfl) (by kernel_rfl) (by kernel_rfl) (fun _ _ _ h => h) (Or.inl ⟨by rfl, by intro w' hSw; (try dsimp only at hSw); go_simp⟩) (by assumption) ?_
  simp only [Act.put, List.setIfInBounds_toArray, List.set_cons_zero, List.set_cons_succ]
  refine wpAnyH_ready (rs := [11, 15]) (by kernel_rfl) (by simp) ?_
  refine AllReadyH.cons rfl (fun K hK => ?_) (AllReadyH.cons rfl (fun K hK => ?_) AllReadyH.nil)
  · go_simp
    refine hK.out _ _ (by assumption) (fun hHeld => ?_)
    clear hK K
    refine wpAnyH_ready (rs := [15]) (by kernel_rfl) (by simp) ?_
    refine AllReadyH.cons rfl (fun K hK => ?_) AllReadyH.nil
    go_simp
    refine hK.out _ _ ?hs (fun hHeld => ?_)
    case hs => first | go_keep | simp [*]
    clear hK K
    refine wpAnyH_ready (rs := [16]) (by kernel_rfl) (by simp) ?_
    refine AllReadyH.cons rfl (fun K hK => ?_) AllReadyH.nil
    refine step_append_lies _ (by rfl) (.tmp 47) (.tmp 51) 210 (by rfl) (T + 1) 212 i0 (.agg #[.int .i64 0, .int .i64 0]) 2 16 Try.underlying210 hi hz0 hz1 hz2 rfl (by decide) _ ln (flatW (tl to)) (by rfl) ((OW.out.alloc _).drew) ⟨w.heap.size, 0, none⟩ 1 1 [.int .i64 (fr : Nat), .int .i64 (l : Nat)] (by rfl) (by rfl) (World.news_of_block (cs := #[.int .i64 (fr : Nat), .int .i64 (l : Nat)]) (t := 212) (fr := (0, 0)) (heap_alloc_new w _)) (by simp [Value.oneCell']) (by decide) (by unfold maxLen; omega) (by omega) (by simp; omega) (w.heap.size + 1) (by simp) ?_
    intro gg cc w2 hown hgrow hat hlt2
    have HMA : WyM (w.alloc (.cells #[.int .i64 (fr : Nat), .int .i64 (l : Nat)] 212)).drew T g2 n V tl := HM.out.keeps (below_drewN ((Below.refl w.heap.size w).alloc (Nat.le_refl _) (.cells #[.int .i64 (fr : Nat), .int .i64 (l : Nat)] 212)) 1)
    have hgrow' : (w.alloc (.cells #[.int .i64 (fr : Nat), .int .i64 (l : Nat)] 212)).drew.grownBy w2 (V to).ownBlock := by rw [HV.out]; exact hgrow
    have O2 := HMA.out.kept hgrow' (own_ne' HMA.out (HMA.row to hto) (by decide))
    have d1 := O2.frozenAt to
    have d0 : w2.cell? ⟨g2, to, none⟩ = some (V to) := (O2.cellAt to (by omega)).trans (by simp [List.getElem?_map, List.getElem?_range hto])
    have bw2 : Below (T + 1) w w2 := (below_drewN ((Below.refl (T + 1) w).alloc (by omega) (.cells #[.int .i64 (fr : Nat), .int .i64 (l : Nat)] 212)) 1).grown hgrow (by show T + 1 ≤ (w.alloc (.cells #[.int .i64 (fr : Nat), .int .i64 (l : Nat)] 212)).heap.size; rw [World.size_alloc]; omega) (fun x h => (OW.out.lt x h).1)
    have TM := hid (wym_push HMA hto (s := (fr, l)) hgrow' (by rw [HLN.out]; exact hown) (by rw [HV.out]; rcases hat with h | h; exact Or.inl h; exact Or.inr (by rw [h]; exact (World.size_alloc ..).symm)))
    rw [HLN.out] at TM
    have BB := hid ((bw2.mono (by omega : g2 ≤ T + 1)).setCell (p := ⟨g2, to, none⟩) (Nat.le_refl _) (.slice (some ⟨gg, 0, none⟩) (ln + 1) cc))
    have e1 : w2.cell? ⟨T, 0, none⟩ = some (.slice (some ⟨g2, 0, none⟩) n n) := (bw2.cell (p := ⟨T, 0, none⟩) (Nat.lt_succ_self _)).trans cT
    have HS5 := hid (TM.out.cell)
    refine hK.out _ _ e1 (fun hHeld => ?_)
    clear hK K O2 HMA bw2 hown hgrow hgrow' hat
    simp only [Act.put, List.setIfInBounds_toArray]
    refine wpAnyH_take (i := 17) (oi := { dst := some 53, op := Op.indexAddr _ (.tmp 39) (.tmp 40), type := _, pos := _, after := _, guard := none }) (v := (Value.pointer (some ⟨g2, to, none⟩))) rfl (by kernel_rfl) (by kernel_rfl) (by kernel_rfl) (fun _ _ _ h => h) (Or.inl ⟨by rfl, by intro w' hSw; (try dsimp only at hSw); go_simp⟩) (by assumption) ?_
    simp only [Act.put]
    refine wpAnyH_ready (rs := [18]) (by kernel_rfl) (by simp) ?_
    refine AllReadyH.cons rfl (fun K hK => ?_) AllReadyH.nil
    go_simp
    refine hK.out _ _ HS5.out (fun hHeld => ?_)
    clear hK K
    refine wpAnyH_done (by kernel_rfl) ?_ _
    clear hHeld e1 d0 d1
    go_wp2_with fail
    go_end0
    exact ⟨rfl, ⟨_, TM.out⟩, BB.out⟩
  · go_simp
    refine hK.out _ _ ?hs (fun hHeld => ?_)
    case hs => first | go_keep | simp [*]
    clear hK K
    refine wpAnyH_ready (rs := [11]) (by kernel_rfl) (by simp) ?_
    refine AllReadyH.cons rfl (fun K hK => ?_) AllReadyH.nil
    go_simp
    refine hK.out _ _ (by assumption) (fun hHeld => ?_)
    clear hK K
    refine wpAnyH_ready (rs := [16]) (by kernel_rfl) (by simp) ?_
    refine AllReadyH.cons rfl (fun K hK => ?_) AllReadyH.nil
    refine step_append_lies _ (by rfl) (.tmp 47) (.tmp 51) 210 (by rfl) (T + 1) 212 i0 (.agg #[.int .i64 0, .int .i64 0]) 2 16 Try.underlying210 hi hz0 hz1 hz2 rfl (by decide) _ ln (flatW (tl to)) (by rfl) ((OW.out.alloc _).drew) ⟨w.heap.size, 0, none⟩ 1 1 [.int .i64 (fr : Nat), .int .i64 (l : Nat)] (by rfl) (by rfl) (World.news_of_block (cs := #[.int .i64 (fr : Nat), .int .i64 (l : Nat)]) (t := 212) (fr := (0, 0)) (heap_alloc_new w _)) (by simp [Value.oneCell']) (by decide) (by unfold maxLen; omega) (by omega) (by simp; omega) (w.heap.size + 1) (by simp) ?_
    intro gg cc w2 hown hgrow hat hlt2
    have HMA : WyM (w.alloc (.cells #[.int .i64 (fr : Nat), .int .i64 (l : Nat)] 212)).drew T g2 n V tl := HM.out.keeps (below_drewN ((Below.refl w.heap.size w).alloc (Nat.le_refl _) (.cells #[.int .i64 (fr : Nat), .int .i64 (l : Nat)] 212)) 1)
    have hgrow' : (w.alloc (.cells #[.int .i64 (fr : Nat), .int .i64 (l : Nat)] 212)).drew.grownBy w2 (V to).ownBlock := by rw [HV.out]; exact hgrow
    have O2 := HMA.out.kept hgrow' (own_ne' HMA.out (HMA.row to hto) (by decide))
    have d1 := O2.frozenAt to
    have d0 : w2.cell? ⟨g2, to, none⟩ = some (V to) := (O2.cellAt to (by omega)).trans (by simp [List.getElem?_map, List.getElem?_range hto])
    have bw2 : Below (T + 1) w w2 := (below_drewN ((Below.refl (T + 1) w).alloc (by omega) (.cells #[.int .i64 (fr : Nat), .int .i64 (l : Nat)] 212)) 1).grown hgrow (by show T + 1 ≤ (w.alloc (.cells #[.int .i64 (fr : Nat), .int .i64 (l : Nat)] 212)).heap.size; rw [World.size_alloc]; omega) (fun x h => (OW.out.lt x h).1)
    have TM := hid (wym_push HMA hto (s := (fr, l)) hgrow' (by rw [HLN.out]; exact hown) (by rw [HV.out]; rcases hat with h | h; exact Or.inl h; exact Or.inr (by rw [h]; exact (World.size_alloc ..).symm)))
    rw [HLN.out] at TM
    have BB := hid ((bw2.mono (by omega : g2 ≤ T + 1)).setCell (p := ⟨g2, to, none⟩) (Nat.le_refl _) (.slice (some ⟨gg, 0, none⟩) (ln + 1) cc))
    have e1 : w2.cell? ⟨T, 0, none⟩ = some (.slice (some ⟨g2, 0, none⟩) n n) := (bw2.cell (p := ⟨T, 0, none⟩) (Nat.lt_succ_self _)).trans cT
    have HS5 := hid (TM.out.cell)
    refine hK.out _ _ e1 (fun hHeld => ?_)
    clear hK K O2 HMA bw2 hown hgrow hgrow' hat
    simp only [Act.put, List.setIfInBounds_toArray]
    refine wpAnyH_take (i := 17) (oi := { dst := some 53, op := Op.indexAddr _ (.tmp 39) (.tmp 40), type := _, pos := _, after := _, guard := none }) (v := (Value.pointer (some ⟨g2, to, none⟩))) rfl (by kernel_rfl) (by kernel_rfl) (by kernel_rfl) (fun _ _ _ h => h) (Or.inl ⟨by rfl, by intro w' hSw; (try dsimp only at hSw); go_simp⟩) (by assumption) ?_
    simp only [Act.put]
    refine wpAnyH_ready (rs := [18]) (by kernel_rfl) (by simp) ?_
    refine AllReadyH.cons rfl (fun K hK => ?_) AllReadyH.nil
    go_simp
    refine hK.out _ _ HS5.out (fun hHeld => ?_)
    clear hK K
    refine wpAnyH_done (by kernel_rfl) ?_ _
    clear hHeld e1 d0 d1
    go_wp2_with fail
    go_end0
    exact ⟨rfl, ⟨_, TM.out⟩, BB.out⟩

end Go.Proofs.Ytjagijohfkffiab

/- The walks of anyWay, findLiving. -/
namespace Go.Proofs.Ytjagijohfkffiab
open Go.RowKit
set_option linter.unusedVariables false

theorem Try.infoSteps : (Try.prog.info? 210).map (fun i => (i.zero, i.size, i.bytes)) = some (some (.slice none 0 0), 1, 24) := by kernel_rfl
theorem Try.waysSize : (Try.prog.info? 155).map (·.size) = some 1 := by kernel_rfl

/-- The ways are handed back through a cell. -/
theorem ret_ways {fn : Func} {c b : Nat} {v : Value} {a : Act} {w : World} {R : Ending → World → Prop} (h : fn.results = #[.cell c 155]) (hd : a.defers = []) (hp : a.tmps.getD c undef = .pointer (some ⟨b, 0, none⟩))
    (hg : w.cell? ⟨b, 0, none⟩ = some v) (hR : R (.returned (.agg #[v])) w) : bodyPost Try.prog fn R .ret a w := by
  refine bodyPost_ret (v := .agg #[v]) ?_ hd hR
  rw [results_one_cell h, hp]
  simp only [asAddr, Sem.run_pure, Result.andThen_ok]
  refine run_loadVar_mid w b 0 _ [v] _ (fun j u hj => ?_) Try.underlying155 rfl Try.waysSize
  cases j with
  | zero => simp at hj; subst hj; simpa using hg
  | succ j => simp at hj

def anyInto (k : Nat) : Nat → List (Nat × Nat) := fun t => if t = 0 then (List.range k).map fun l => (0, l) else []
theorem anyInto_zero : anyInto 0 = fun _ => [] := by funext t; simp [anyInto]
theorem anyInto_step (k : Nat) : updW (anyInto k) 0 (anyInto k 0 ++ [(0, k)]) = anyInto (k + 1) := by
  funext t
  unfold updW anyInto
  by_cases e : t = 0
  · simp [e, List.range_succ]
  · simp [e]
theorem anyInto_ways : WaysP 1 (anyInto 8) := ⟨by omega, fun t ht st hs => by
  obtain rfl : t = 0 := by omega
  simp [anyInto] at hs
  obtain ⟨l, hl, rfl⟩ := hs
  exact ⟨by omega, hl⟩, fun t ht => by
  obtain rfl : t = 0 := by omega
  simp [anyInto]⟩

set_option maxHeartbeats 8000000 in
set_option maxRecDepth 100000 in
theorem anyWay_any (w : World) : Calls Try.prog 108 #[] w fun e w' => ∃ g, e = .returned (.agg #[.slice (some ⟨g, 0, none⟩) 1 1]) ∧ WaysM w' g 1 (anyInto 8) ∧ Below w.heap.size w w' := by
  obtain ⟨i0, hi, hz0, hz1, hz2⟩ := info_parts Try.infoSteps
  go_enter Try.func108, Try.ntmps108
  go_wp2_with (at_make; go_must (refine wpList_make_full _ rfl (.const (.int .i64 1)) (.const (.int .i64 1)) 153 rfl (w.heap.size + 1) 210 i0 (.slice none 0 0) 1 Try.underlying153 hi hz0 hz1 .i64 .i64 1 1 1 rfl rfl rfl rfl ?m2 ?m3 (by simp) ?_))
  case m2 => rw [hz2]; omega
  case m3 => unfold maxLen; omega
  intro w1 own1 grow1
  have eo : (madeCells #[Value.slice none 0 0] (1 * 1)).toList = (List.range 1).map (fun _ => Value.slice none 0 0) := by rw [toList_madeCells_one]; rfl
  have o1 : w1.ownsRow (w.heap.size + 1) 210 1 (.slice (some ⟨w.heap.size + 1, 0, none⟩) 1 1) 1 ((List.range 1).map (fun _ => Value.slice none 0 0)) := by rw [← eo]; exact own1
  have hlt : w.heap.size + 1 < w1.heap.size := (o1.lt _ rfl).2
  have b0 := ((Below.refl (w.heap.size + 1) (w.alloc (.cells #[.slice none 0 0] 155))).grown grow1 (by simp) (fun k h => by cases h))
  have R0 : w1.cell? ⟨w.heap.size, 0, none⟩ = some (.slice none 0 0) := (b0.cell (p := ⟨w.heap.size, 0, none⟩) (by show w.heap.size < w.heap.size + 1; omega)).trans (by simp)
  have R1 : w1.frozen? ⟨w.heap.size, 0, none⟩ = false := (b0.frozen (p := ⟨w.heap.size, 0, none⟩) (by show w.heap.size < w.heap.size + 1; omega)).trans (by simp)
  have HB1 : Hid (Below w.heap.size w w1) := hid (((Below.refl w.heap.size w).alloc (Nat.le_refl _) (.cells #[.slice none 0 0] 155)).trans (b0.mono (by omega)))
  have M1 : Hid (WyM (w1.alloc (.cells #[.slice (some ⟨w.heap.size + 1, 0, none⟩) 1 1] 155)) w1.heap.size (w.heap.size + 1) 1 (fun _ => .slice none 0 0) (anyInto 0)) := hid ⟨hlt, by simp, o1.alloc _, fun j hj => by rw [anyInto_zero]; exact World.ownsRow_nil _ _ _ _, fun i j hi hj h => by omega⟩
  have HR : Hid ((w1.alloc (.cells #[.slice (some ⟨w.heap.size + 1, 0, none⟩) 1 1] 155)).cell? ⟨w.heap.size, 0, none⟩ = some (.slice none 0 0) ∧ (w1.alloc (.cells #[.slice (some ⟨w.heap.size + 1, 0, none⟩) 1 1] 155)).frozen? ⟨w.heap.size, 0, none⟩ = false) := hid ⟨by rw [World.cell?_alloc_lt _ _ _ (by show w.heap.size < w1.heap.size; omega)]; exact R0, by rw [World.frozen?_alloc_past _ _ _ (by show w.heap.size < w1.heap.size; omega)]; exact R1⟩
  have HB2 := hid (HB1.out.alloc (by omega) (.cells #[.slice (some ⟨w.heap.size + 1, 0, none⟩) 1 1] 155))
  clear own1 grow1 eo o1 b0 R0 R1 HB1
  go_wp2_with fail
  generalize w1.heap.size = T at *
  go_loopw [2] (fun i wq => ∃ (k : Nat) (V : Nat → Value), k ≤ 8 ∧ i = .int .i64 k ∧ Hid (WyM wq T (w.heap.size + 1) 1 V (anyInto k)) ∧ Hid (wq.cell? ⟨w.heap.size, 0, none⟩ = some (.slice none 0 0) ∧ wq.frozen? ⟨w.heap.size, 0, none⟩ = false) ∧ Hid (Below w.heap.size w wq)) (fun i _ => 8 - (intOf i).toNat)
  case atStart => exact ⟨0, _, by omega, rfl, M1, HR, HB2⟩
  case round =>
    obtain ⟨k, V, hk, rfl, HM, HR, HB⟩ := hrel
    rename World => W0
    by_cases hlk : k < 8
    · go_wp2_with fail
      refine (wadd_any T (w.heap.size + 1) 1 0 k 0 V (anyInto k) W0 HM.out (by omega) (by omega) hlk (by omega) (by simp [anyInto]; omega)).mono ?_
      rintro e w2 ⟨rfl, ⟨V', hm⟩, hb⟩
      rw [anyInto_step] at hm
      have HM2 := hid hm
      have HR2 := hid (And.intro ((hb.cell (p := ⟨w.heap.size, 0, none⟩) (by show w.heap.size < w.heap.size + 1; omega)).trans HR.out.1) ((hb.frozen (p := ⟨w.heap.size, 0, none⟩) (by show w.heap.size < w.heap.size + 1; omega)).trans HR.out.2))
      have HB3 := hid (HB.out.trans (hb.mono (by omega)))
      clear hm hb
      go_wp2_with fail
      go_roundw
      case rel => exact ⟨k + 1, V', by omega, by go_num, HM2, HR2, HB3⟩
      case measure => simp [intOf]; omega
    · obtain rfl : k = 8 := by omega
      have c1 := HM.out.cell
      have r0 := HR.out.1
      have r1 := HR.out.2
      have hw := HM.out.ways
      have HW : Hid (WaysM (W0.setCell ⟨w.heap.size, 0, none⟩ (.slice (some ⟨w.heap.size + 1, 0, none⟩) 1 1)) (w.heap.size + 1) 1 (anyInto 8)) := hid (by
        obtain ⟨ao, cap, h1, h2⟩ := hw.row 0 (by omega)
        refine ⟨by simpa using hw.lt, fun t ht => ?_⟩
        obtain rfl : t = 0 := by omega
        refine ⟨ao, cap, ?_, fun h0 => ?_⟩
        · rw [World.cell?_setCell_other _ _ _ _ (fun e => by have := congrArg Addr.block e; simp at this)]; exact h1
        · obtain ⟨gr, h3, h4, h5⟩ := h2 h0
          have hne : gr ≠ w.heap.size := fun e => by
            have h6 := (h5 0 (0, 0) (by simp [anyInto])).1
            rw [e, Nat.zero_mul, r0] at h6
            cases h6
          refine ⟨gr, h3, by simpa using h4, fun j st hj => ?_⟩
          obtain ⟨h6, h7⟩ := h5 j st hj
          exact ⟨by rw [World.cell?_setCell_other _ _ _ _ (fun e => hne (by have := congrArg Addr.block e; simpa using this.symm))]; exact h6, by rw [World.cell?_setCell_other _ _ _ _ (fun e => hne (by have := congrArg Addr.block e; simpa using this.symm))]; exact h7⟩)
      have HB4 := hid (HB.out.setCell (p := ⟨w.heap.size, 0, none⟩) (Nat.le_refl _) (.slice (some ⟨w.heap.size + 1, 0, none⟩) 1 1))
      have HCC : Hid ((W0.setCell ⟨w.heap.size, 0, none⟩ (.slice (some ⟨w.heap.size + 1, 0, none⟩) 1 1)).cell? ⟨w.heap.size, 0, none⟩ = some (.slice (some ⟨w.heap.size + 1, 0, none⟩) 1 1)) := hid (World.cell?_setCell_same _ _ _ r0)
      clear hw
      go_wp2_with fail
      refine ret_ways Try.results108 ?_ ?_ HCC.out ?_
      · rfl
      · rfl
      · exact ⟨_, rfl, HW.out, HB4.out⟩

end Go.Proofs.Ytjagijohfkffiab

/- The walk of findLiving. -/
namespace Go.Proofs.Ytjagijohfkffiab
open Go.RowKit
set_option linter.unusedVariables false

def LivP (ns : List Nd) (cs : List (Nat → Bool)) (liv : Nat → Bool) : Prop := ∀ v, liv v = true ↔ Forever (Ew 1 ns (anyInto 8)) (spreads cs) v

set_option maxHeartbeats 4000000 in
set_option maxRecDepth 100000 in
theorem findLiving_any (P : Nat) (ns : List Nd) (cs : List (Nat → Bool)) (w : World) (h8 : ns.length ≤ 8) (hbm : BefM w P ns) (hP : P < w.heap.size) (hcm : CalmM w P cs) (hcl : cs.length ≤ 8) :
    Calls Try.prog 67 #[.pointer (some ⟨P, 0, none⟩)] w fun e w' => ∃ liv, e = .returned (.agg (gv liv).toArray) ∧ LivP ns cs liv ∧ Below w.heap.size w w' := by
  have HM := hid hbm
  have HC := hid hcm
  clear hbm hcm
  go_enter Try.func67, Try.ntmps67
  go_wp2_with fail
  refine (anyWay_any _).mono ?_
  rintro e w1 ⟨g, rfl, hw, hb1⟩
  simp only [World.size_alloc] at hb1
  have G2 := hid ((zero_new w).below hb1 (by omega))
  have HB1 := hid (((Below.refl w.heap.size w).alloc (Nat.le_refl _) (.cells Try.zeroCells69 69)).trans (hb1.mono (by omega)))
  have hs1 : w.heap.size < w1.heap.size := by have := hb1.size; simp at this; omega
  have HW := hid (hw.below ((Below.refl w1.heap.size w1).alloc (Nat.le_refl _) (.cells #[.slice (some ⟨g, 0, none⟩) 1 1] 155)))
  clear hw hb1
  have HB2 := hid (HB1.out.alloc (by omega) (.cells #[.slice (some ⟨g, 0, none⟩) 1 1] 155))
  have G2 := hid (G2.out.alloc (.cells #[.slice (some ⟨g, 0, none⟩) 1 1] 155))
  go_wp2_with fail
  refine (lasting_any P g 1 1 ns (anyInto 8) cs _ h8 anyInto_ways (HM.out.below HB2.out hP) (by simp; omega) (HC.out.below HB2.out hP) hcl HW.out).mono ?_
  rintro e w3 ⟨g3, f, rfl, hg3, hg3s, F3, HL, hb3⟩
  simp only [World.size_alloc] at hb3 hg3
  have G2 := hid (G2.out.below hb3 (by omega))
  have HB3 := hid (HB2.out.trans (hb3.mono (by omega)))
  have F3 := hid (F3.grp (t := 0) (by omega))
  have HLV := hid HL
  clear hb3 HL
  go_wp2_with (first | (refine wpList_load_grp rfl (.tmp 14) rfl g3 0 f rfl (by simpa using F3.out) ?_) | (refine wpList_store_grp rfl (.tmp 2) (.tmp 15) rfl w.heap.size 0 f rfl rfl G2.out.there ?_))
  intro w4 S4
  go_wp2_with fail
  refine ret_group Try.results67 ?_ ?_ S4.at_ ?_
  · rfl
  · rfl
  · exact ⟨f, rfl, HLV.out, S4.bel _ _ (Nat.le_refl _) HB3.out⟩

end Go.Proofs.Ytjagijohfkffiab
