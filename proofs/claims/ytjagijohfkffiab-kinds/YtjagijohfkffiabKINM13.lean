import Derived.Test.YtjagijohfkffiabKINM01
import Derived.Test.YtjagijohfkffiabKINM12
import Derived.Deep.AppendLies

/- The walk of the explorer's number (laid by gen_number.py). -/
namespace Go.Proofs.Ytjagijohfkffiab
open Go.RowKit
set_option linter.unusedVariables false

/-- The groups that were met, in memory. -/
structure ExM (w : World) (B T : Nat) (v : Value) (gs : List (Nat → Bool)) : Prop where
  c : w.cell? ⟨T, 0, none⟩ = some v
  f : w.frozen? ⟨T, 0, none⟩ = false
  own : w.ownsRow B 69 256 v gs.length (flatC gs)
  ne : v.ownBlock ≠ some T
theorem ExM.lt {w : World} {B T : Nat} {v : Value} {gs : List (Nat → Bool)} (h : ExM w B T v gs) : T < w.heap.size := World.block_lt_of_cell? w ⟨T, 0, none⟩ h.c
theorem ExM.below {w w' : World} {B T : Nat} {v : Value} {gs : List (Nat → Bool)} (h : ExM w B T v gs) (hb : Below w.heap.size w w') : ExM w' B T v gs :=
  ⟨(hb.cell (p := ⟨T, 0, none⟩) h.lt).trans h.c, (hb.frozen (p := ⟨T, 0, none⟩) h.lt).trans h.f, own_keeps h.own hb, h.ne⟩

/-- All blocks but T and the row's are as they were. -/
structure NumF (w w' : World) (T : Nat) (row : Option Nat) : Prop where
  os : w'.os = w.os
  tape : w'.tape = w.tape
  output : w'.output = w.output
  size : w.heap.size ≤ w'.heap.size
  block : ∀ k, k < w.heap.size → k ≠ T → some k ≠ row → w'.heap[k]? = w.heap[k]?
theorem NumF.of_below {w w' : World} {T : Nat} {row : Option Nat} (h : Below w.heap.size w w') : NumF w w' T row := ⟨h.os, h.tape, h.output, h.size, fun k hk _ _ => h.block k hk⟩
theorem NumF.cell {w w' : World} {T : Nat} {row : Option Nat} (h : NumF w w' T row) {p : Addr} (hp : p.block < w.heap.size) (h1 : p.block ≠ T) (h2 : some p.block ≠ row) : w'.cell? p = w.cell? p := World.cell?_of_block (h.block _ hp h1 h2)
theorem NumF.frozen {w w' : World} {T : Nat} {row : Option Nat} (h : NumF w w' T row) {p : Addr} (hp : p.block < w.heap.size) (h1 : p.block ≠ T) (h2 : some p.block ≠ row) : w'.frozen? p = w.frozen? p := World.frozen?_of_block (h.block _ hp h1 h2)

/-- []Group{g}, at a step of a drawn region. -/
theorem step_build_grp {ops : Array Oper} {o : Oper} {a : Act} {w : World} {K : Act → World → Prop} {Q : Exit → Act → World → Prop} {E : Prop} (hgd : o.guard = none) (x : Operand) (ho : o.op = .buildSlice 67 1 #[(0, x)])
    (g : Nat → Bool) (hx : a.eval x = .agg (gv g).toArray) (h : K (a.put o.dst (.slice (some ⟨w.heap.size, 0, none⟩) 1 1)) (w.alloc (.cells (gv g).toArray 69))) :
    if Region.wanted o (yielded ops a.tmps) = true then Oper.wp Try.prog o a w K Q else E := by
  have hw : Region.wanted o (yielded ops a.tmps) = true := by simp [Region.wanted, hgd]
  rw [if_pos hw]
  unfold Oper.wp execOp
  have := run_buildSlice_grp g w
  simp only [ho, hx, List.map_toArray, List.map_cons, List.map_nil, Sem.run_bind, this, Result.andThen_ok, Sem.run_pure]
  exact h

def Numbered1 (w w' : World) (B T : Nat) (v : Value) (gs : List (Nat → Bool)) (g : Nat → Bool) (j : Nat) (v' : Value) (gs' : List (Nat → Bool)) : Prop :=
  ExM w' B T v' gs' ∧ NumF w w' T v.ownBlock ∧ ((gs' = gs ∧ v' = v ∧ ∃ g0, gs[j]? = some g0 ∧ geq g0 g = true) ∨ (j = gs.length ∧ gs' = gs ++ [g] ∧ (v'.ownBlock = v.ownBlock ∨ ∃ q, v'.ownBlock = some q ∧ w.heap.size ≤ q) ∧ ∀ g0 ∈ gs, geq g0 g = false))

set_option maxHeartbeats 8000000 in
set_option maxRecDepth 100000 in
theorem number_any (B T : Nat) (v : Value) (gs : List (Nat → Bool)) (g : Nat → Bool) (w : World) (hm : ExM w B T v gs) (hB : B ≤ w.heap.size) (hlen : gs.length ≤ 8589934592) :
    Calls Try.prog 74 #[.pointer (some ⟨T, 0, none⟩), .agg (gv g).toArray] w fun e w' => ∃ j v' gs', e = .returned (.int .i64 (j : Nat)) ∧ Numbered1 w w' B T v gs g j v' gs' := by
  have hT := hm.lt
  have HM := hid hm
  have HOW := hid hm.own
  obtain ⟨ao, cp, rfl⟩ := own_slice hm.own
  have HCV := hid (calmV_own hm.own)
  have c0 := hm.c
  have EQ := fun g h W => run_equal_grp 9998 g h W
  have BX := hid (grp_new w g 69)
  have HB0 := hid ((Below.refl w.heap.size w).alloc (Nat.le_refl _) (.cells (gv g).toArray 69))
  have hnp : ∀ k, (Value.slice ao gs.length cp).ownBlock = some k → k < w.heap.size := fun k h => (hm.own.lt k h).2
  have HNP := hid hnp
  clear hm hnp
  obtain ⟨i0, hi, hz0, hz1, hz2⟩ := info_parts Try.infoGroup
  have HZC : Hid ((Value.agg (gv fun _ => false).toArray).cells.size = 256) := hid (by show (gv fun _ => false).toArray.size = 256; rw [List.size_toArray, gv_len])
  generalize hnE : gs.length = n at *
  have HNE := hid hnE
  clear hnE
  go_enter Try.func74, Try.ntmps74
  go_wp2_with fail
  clear c0
  go_loopw [12] (fun i wq => ∃ k : Nat, k ≤ n ∧ i = .int .i64 k ∧ Hid (∀ i g0, i < k → gs[i]? = some g0 → geq g0 g = false) ∧ Hid (GrpAt wq w.heap.size 0 g) ∧ w.heap.size < wq.heap.size ∧ Hid (Below w.heap.size w wq)) (fun i _ => n - (intOf i).toNat)
  case atStart => exact ⟨0, Nat.zero_le _, rfl, hid (fun i g0 h => by omega), BX, by simp, HB0⟩
  case round =>
    obtain ⟨k, hk, rfl, HA, HG, hsz, HB⟩ := hrel
    rename World => W0
    by_cases hlk : k < n
    · obtain ⟨ao2, cap2, e2, hgc⟩ := HCV.out
      cases e2
      obtain ⟨gc, e3, hgcl, hgrp⟩ := hgc (by rw [HNE.out]; omega)
      subst e3
      obtain ⟨g0, hg0⟩ : ∃ g0, gs[k]? = some g0 := ⟨gs[k]'(by rw [HNE.out]; exact hlk), List.getElem?_eq_getElem (by rw [HNE.out]; exact hlk)⟩
      have GK := hid ((hgrp k g0 hg0).below HB.out hgcl)
      have HG0 := hid hg0
      clear hgrp hg0
      rw [HNE.out] at *
      go_wp2_with (first | (refine wpList_load_grp rfl (.tmp 15) rfl gc (k * 256) g0 rfl GK.out ?_) | (refine wpList_store_grp rfl (.tmp 6) (.tmp 16) rfl W0.heap.size 0 g0 rfl rfl (zero_new W0).there ?_))
      intro w2 S2
      have A6 := hid S2.at_
      have A3 := hid (S2.grp (HG.out.alloc (.cells Try.zeroCells69 69)) (Or.inl (by omega)))
      have AB := hid (S2.bel _ _ (by omega) (HB.out.alloc (by omega) (.cells Try.zeroCells69 69)))
      have hs2 : w2.heap.size = W0.heap.size + 1 := by rw [S2.size]; simp
      clear S2 GK
      have EQ0 := fun W => run_equal_grp 9998 g0 g W
      clear EQ
      cases eq : geq g0 g with
      | true =>
        rw [eq] at EQ0
        go_wp2_with (first | (refine wpList_load_grp rfl (.tmp 6) rfl W0.heap.size 0 g0 rfl A6.out ?_) | (refine wpList_load_grp rfl (.tmp 3) rfl w.heap.size 0 g rfl A3.out ?_))
        go_ret
        exact ⟨k, _, gs, rfl, HM.out.below AB.out, NumF.of_below AB.out, Or.inl ⟨rfl, rfl, g0, HG0.out, eq⟩⟩
      | false =>
        have HA2 : Hid (∀ i g1, i < k + 1 → gs[i]? = some g1 → geq g1 g = false) := hid (fun i g1 h1 h2 => by
          by_cases e : i = k
          · subst e; rw [HG0.out] at h2; cases h2; exact eq
          · exact HA.out i g1 (by omega) h2)
        rw [eq] at EQ0
        clear eq
        go_wp2_with (first | (refine wpList_load_grp rfl (.tmp 6) rfl W0.heap.size 0 g0 rfl A6.out ?_) | (refine wpList_load_grp rfl (.tmp 3) rfl w.heap.size 0 g rfl A3.out ?_))
        go_roundw
        case rel => exact ⟨k + 1, by omega, by go_num, HA2, A3, by omega, AB⟩
        case measure => simp [intOf]; omega
    · obtain rfl : k = n := by omega
      have HM3 := hid (HM.out.below HB.out)
      have OW := hid (own_keeps HOW.out HB.out)
      have cT := HM3.out.c
      have fT := HM3.out.f
      have hTW : T < W0.heap.size := by omega
      go_wp2_with fail
      refine wp_region_held_drew (S := fun W => GrpAt W w.heap.size 0 g) (by kernel_rfl) HG.out.drew (fun hHeld => ?_)
      refine wpAnyH_take (i := 0) (oi := { dst := some 22, op := Op.move (.tmp 0), type := _, pos := _, after := _, guard := none }) (v := (Value.pointer (some ⟨T, 0, none⟩))) rfl (by kernel_rfl) (by kernel_rfl) (by kernel_rfl) (fun _ _ _ h => h) (Or.inl ⟨by rfl, by intro w' hSw; (try dsimp only at hSw); go_simp⟩) (by assumption) ?_
      simp only [Act.put, List.setIfInBounds_toArray, List.set_cons_zero, List.set_cons_succ]
      refine wpAnyH_take (i := 1) (oi := { dst := some 23, op := Op.move (.tmp 0), type := _, pos := _, after := _, guard := none }) (v := (Value.pointer (some ⟨T, 0, none⟩))) rfl (by kernel_rfl) (by kernel_rfl) (by kernel_rfl) (fun _ _ _ h => h) (Or.inl ⟨by rfl, by intro w' hSw; (try dsimp only at hSw); go_simp⟩) (by assumption) ?_
      simp only [Act.put, List.setIfInBounds_toArray, List.set_cons_zero, List.set_cons_succ]
      refine wpAnyH_take (i := 2) (oi := { dst := some 24, op := Op.nilCheck (.tmp 23), type := _, pos := _, after := _, guard := none }) (v := (Value.pointer (some ⟨T, 0, none⟩))) rfl (by kernel_rfl) (by kernel_rfl) (by kernel_rfl) (fun _ _ _ h => h) (Or.inl ⟨by rfl, by intro w' hSw; (try dsimp only at hSw); go_simp⟩) (by assumption) ?_
      simp only [Act.put, List.setIfInBounds_toArray, List.set_cons_zero, List.set_cons_succ]
      refine wpAnyH_take (i := 3) (oi := { dst := some 25, op := Op.fieldAddr _ (.tmp 24) 0, type := _, pos := _, after := _, guard := none }) (v := (Value.pointer (some ⟨T, 0, none⟩))) rfl (by kernel_rfl) (by kernel_rfl) (by kernel_rfl) (fun _ _ _ h => h) (Or.inl ⟨by rfl, by intro w' hSw; (try dsimp only at hSw); go_simp⟩) (by assumption) ?_
      simp only [Act.put, List.setIfInBounds_toArray, List.set_cons_zero, List.set_cons_succ]
      refine wpAnyH_take (i := 5) (oi := { dst := some 27, op := Op.load 69 (.tmp 3), type := _, pos := _, after := _, guard := none }) (v := (Value.agg (gv g).toArray)) rfl (by kernel_rfl) (by kernel_rfl) (by kernel_rfl) (fun _ _ _ h => h) (yieldsIf_load_mid (by rfl) 69 (.tmp 3) rfl w.heap.size 0 rfl (gv g) _ (fun W h => h.rng) Try.groupUnder rfl (Try.groupSz g)) (by assumption) ?_
      simp only [Act.put, List.setIfInBounds_toArray, List.set_cons_zero, List.set_cons_succ]
      refine wpAnyH_ready (rs := [4, 6]) (by kernel_rfl) (by simp) ?_
      refine AllReadyH.cons rfl (fun K hK => ?_) (AllReadyH.cons rfl (fun K hK => ?_) AllReadyH.nil)
      · go_simp
        refine hK.out _ _ (by assumption) (fun hHeld => ?_)
        clear hK K
        refine wpAnyH_ready (rs := [6]) (by kernel_rfl) (by simp) ?_
        refine AllReadyH.cons rfl (fun K hK => ?_) AllReadyH.nil
        refine step_build_grp (by rfl) (.tmp 27) (by rfl) g (by rfl) ?_
        refine hK.out _ _ ((by exact hHeld : GrpAt _ w.heap.size 0 g).alloc _) (fun hHeld => ?_)
        clear hK K
        refine wpAnyH_ready (rs := [7]) (by kernel_rfl) (by simp) ?_
        refine AllReadyH.cons rfl (fun K hK => ?_) AllReadyH.nil
        refine step_append_lies _ (by rfl) (.tmp 26) (.tmp 28) 67 (by rfl) B 69 i0 (.agg (gv fun _ => false).toArray) 256 256 Try.underlying67 hi hz0 hz1 hz2 HZC.out (by decide) _ k (flatC gs) (by rfl) ((OW.out.alloc _).drew) ⟨W0.heap.size, 0, none⟩ 1 1 (gv g) (by rfl) (by rw [gv_len]) (grp_news W0 g _) (gv_one g) (by decide) (by unfold maxLen; omega) (by omega) (by simp; omega) (W0.heap.size + 1) (by simp) ?_
        intro gg cc w2 hown hgrow hat hlt2
        have hrow : ∀ q, some q = (Value.slice ao k cp).ownBlock → q < w.heap.size := fun q h => HNP.out q h.symm
        have h0 : (W0.alloc (.cells (gv g).toArray 69)).cell? ⟨T, 0, none⟩ = some (.slice ao k cp) := by rw [World.cell?_alloc_lt _ _ _ hTW]; exact cT
        have c2 : w2.cell? ⟨T, 0, none⟩ = some (.slice ao k cp) := hgrow.cell h0 (fun e => HM.out.ne e.symm)
        have f2 : w2.frozen? ⟨T, 0, none⟩ = false := by
          have hb := hgrow.block T (by show T < (W0.alloc (.cells (gv g).toArray 69)).heap.size; rw [World.size_alloc]; omega) (fun e => HM.out.ne e.symm)
          rw [World.frozen?_of_block (a := ⟨T, 0, none⟩) hb]
          show (W0.alloc (.cells (gv g).toArray 69)).frozen? ⟨T, 0, none⟩ = false
          rw [World.frozen?_alloc_past _ _ _ hTW]
          exact fT
        have g2 : GrpAt w2 w.heap.size 0 g := by
          have hb := hgrow.block w.heap.size (by show w.heap.size < (W0.alloc (.cells (gv g).toArray 69)).heap.size; rw [World.size_alloc]; omega) (fun e => Nat.lt_irrefl _ (hrow _ e))
          have h3 := (HG.out.alloc (.cells (gv g).toArray 69)).drew
          exact ⟨fun j hj => (World.cell?_of_block (a := ⟨w.heap.size, 0 + j, none⟩) hb).trans (h3.c j hj), fun j hj => (World.frozen?_of_block (a := ⟨w.heap.size, 0 + j, none⟩) hb).trans (h3.f j hj)⟩
        have hggT : gg ≠ T := by
          rcases hat with h | h
          · exact fun e => HM.out.ne (by rw [← e]; exact h)
          · omega
        have EX : Hid (ExM (w2.setCell ⟨T, 0, none⟩ (.slice (some ⟨gg, 0, none⟩) (k + 1) cc)) B T (.slice (some ⟨gg, 0, none⟩) (k + 1) cc) (gs ++ [g])) := hid ⟨World.cell?_setCell_same _ _ _ c2, by rw [World.frozen?_setCell]; exact f2, by
          rw [List.length_append, HNE.out, flatC_snoc]
          refine hown.kept (row := some T) ⟨rfl, rfl, rfl, by rw [World.size_setCell]; exact Nat.le_refl _, fun q hq hne => Below.heap_setCell _ _ _ _ (fun e => hne (by rw [e]))⟩ (Or.inr (by simpa [Value.ownBlock] using hggT)), by simpa [Value.ownBlock] using hggT⟩
        have hszN : W0.heap.size + 1 ≤ w2.heap.size := by
          have h4 : (W0.drew.alloc (.cells (gv g).toArray 69)).heap.size ≤ w2.heap.size := hgrow.size
          rw [World.size_alloc] at h4
          exact h4
        have NF : Hid (NumF w (w2.setCell ⟨T, 0, none⟩ (.slice (some ⟨gg, 0, none⟩) (k + 1) cc)) T (Value.slice ao k cp).ownBlock) := hid ⟨hgrow.os.trans HB.out.os, hgrow.tape.trans HB.out.tape, hgrow.output.trans HB.out.output, by rw [World.size_setCell]; omega, fun q hq h1 h2 => by
          rw [Below.heap_setCell _ _ _ _ h1, hgrow.block q (by show q < (W0.alloc (.cells (gv g).toArray 69)).heap.size; rw [World.size_alloc]; omega) h2]
          show (W0.alloc (.cells (gv g).toArray 69)).heap[q]? = _
          rw [Below.heap_alloc _ _ _ (by omega)]
          exact HB.out.block q hq⟩
        have OB : Hid ((Value.slice (some ⟨gg, 0, none⟩) (k + 1) cc).ownBlock = (Value.slice ao k cp).ownBlock ∨ ∃ q, (Value.slice (some ⟨gg, 0, none⟩) (k + 1) cc).ownBlock = some q ∧ w.heap.size ≤ q) := hid (by
          rcases hat with h | h
          · exact Or.inl (by rw [h]; rfl)
          · exact Or.inr ⟨gg, rfl, by omega⟩)
        refine hK.out _ _ g2 (fun hHeld => ?_)
        have HS5 := hid (g2.other ⟨T, 0, none⟩ (.slice (some ⟨gg, 0, none⟩) (k + 1) cc) (Or.inl (by show T ≠ w.heap.size; omega)))
        clear hK K hown hgrow hat g2 hrow
        simp only [Act.put, List.setIfInBounds_toArray]
        refine wpAnyH_take (i := 8) (oi := { dst := some 30, op := Op.nilCheck (.tmp 22), type := _, pos := _, after := _, guard := none }) (v := (Value.pointer (some ⟨T, 0, none⟩))) rfl (by kernel_rfl) (by kernel_rfl) (by kernel_rfl) (fun _ _ _ h => h) (Or.inl ⟨by rfl, by intro w' hSw; (try dsimp only at hSw); go_simp⟩) (by assumption) ?_
        simp only [Act.put]
        refine wpAnyH_take (i := 9) (oi := { dst := some 31, op := Op.fieldAddr _ (.tmp 30) 0, type := _, pos := _, after := _, guard := none }) (v := (Value.pointer (some ⟨T, 0, none⟩))) rfl (by kernel_rfl) (by kernel_rfl) (by kernel_rfl) (fun _ _ _ h => h) (Or.inl ⟨by rfl, by intro w' hSw; (try dsimp only at hSw); go_simp⟩) (by assumption) ?_
        simp only [Act.put]
        refine wpAnyH_ready (rs := [10]) (by kernel_rfl) (by simp) ?_
        refine AllReadyH.cons rfl (fun K hK => ?_) AllReadyH.nil
        go_simp
        refine hK.out _ _ HS5.out (fun hHeld => ?_)
        clear hK K
        refine wpAnyH_done (by kernel_rfl) ?_ _
        have e1 := EX.out.c
        clear hHeld c2 f2 cT fT
        go_wp2_with fail
        go_ret
        exact ⟨k, _, _, rfl, EX.out, NF.out, Or.inr ⟨HNE.out.symm, rfl, OB.out, fun g0 hg0 => by
          obtain ⟨i, hi, e⟩ := List.getElem_of_mem hg0
          exact HA.out i g0 (by rw [← HNE.out]; exact hi) (by rw [List.getElem?_eq_getElem hi, e])⟩⟩
      · refine step_build_grp (by rfl) (.tmp 27) (by rfl) g (by rfl) ?_
        refine hK.out _ _ ((by exact hHeld : GrpAt _ w.heap.size 0 g).alloc _) (fun hHeld => ?_)
        clear hK K
        refine wpAnyH_ready (rs := [4]) (by kernel_rfl) (by simp) ?_
        refine AllReadyH.cons rfl (fun K hK => ?_) AllReadyH.nil
        go_simp
        refine hK.out _ _ (by assumption) (fun hHeld => ?_)
        clear hK K
        refine wpAnyH_ready (rs := [7]) (by kernel_rfl) (by simp) ?_
        refine AllReadyH.cons rfl (fun K hK => ?_) AllReadyH.nil
        refine step_append_lies _ (by rfl) (.tmp 26) (.tmp 28) 67 (by rfl) B 69 i0 (.agg (gv fun _ => false).toArray) 256 256 Try.underlying67 hi hz0 hz1 hz2 HZC.out (by decide) _ k (flatC gs) (by rfl) ((OW.out.alloc _).drew) ⟨W0.heap.size, 0, none⟩ 1 1 (gv g) (by rfl) (by rw [gv_len]) (grp_news W0 g _) (gv_one g) (by decide) (by unfold maxLen; omega) (by omega) (by simp; omega) (W0.heap.size + 1) (by simp) ?_
        intro gg cc w2 hown hgrow hat hlt2
        have hrow : ∀ q, some q = (Value.slice ao k cp).ownBlock → q < w.heap.size := fun q h => HNP.out q h.symm
        have h0 : (W0.alloc (.cells (gv g).toArray 69)).cell? ⟨T, 0, none⟩ = some (.slice ao k cp) := by rw [World.cell?_alloc_lt _ _ _ hTW]; exact cT
        have c2 : w2.cell? ⟨T, 0, none⟩ = some (.slice ao k cp) := hgrow.cell h0 (fun e => HM.out.ne e.symm)
        have f2 : w2.frozen? ⟨T, 0, none⟩ = false := by
          have hb := hgrow.block T (by show T < (W0.alloc (.cells (gv g).toArray 69)).heap.size; rw [World.size_alloc]; omega) (fun e => HM.out.ne e.symm)
          rw [World.frozen?_of_block (a := ⟨T, 0, none⟩) hb]
          show (W0.alloc (.cells (gv g).toArray 69)).frozen? ⟨T, 0, none⟩ = false
          rw [World.frozen?_alloc_past _ _ _ hTW]
          exact fT
        have g2 : GrpAt w2 w.heap.size 0 g := by
          have hb := hgrow.block w.heap.size (by show w.heap.size < (W0.alloc (.cells (gv g).toArray 69)).heap.size; rw [World.size_alloc]; omega) (fun e => Nat.lt_irrefl _ (hrow _ e))
          have h3 := (HG.out.alloc (.cells (gv g).toArray 69)).drew
          exact ⟨fun j hj => (World.cell?_of_block (a := ⟨w.heap.size, 0 + j, none⟩) hb).trans (h3.c j hj), fun j hj => (World.frozen?_of_block (a := ⟨w.heap.size, 0 + j, none⟩) hb).trans (h3.f j hj)⟩
        have hggT : gg ≠ T := by
          rcases hat with h | h
          · exact fun e => HM.out.ne (by rw [← e]; exact h)
          · omega
        have EX : Hid (ExM (w2.setCell ⟨T, 0, none⟩ (.slice (some ⟨gg, 0, none⟩) (k + 1) cc)) B T (.slice (some ⟨gg, 0, none⟩) (k + 1) cc) (gs ++ [g])) := hid ⟨World.cell?_setCell_same _ _ _ c2, by rw [World.frozen?_setCell]; exact f2, by
          rw [List.length_append, HNE.out, flatC_snoc]
          refine hown.kept (row := some T) ⟨rfl, rfl, rfl, by rw [World.size_setCell]; exact Nat.le_refl _, fun q hq hne => Below.heap_setCell _ _ _ _ (fun e => hne (by rw [e]))⟩ (Or.inr (by simpa [Value.ownBlock] using hggT)), by simpa [Value.ownBlock] using hggT⟩
        have hszN : W0.heap.size + 1 ≤ w2.heap.size := by
          have h4 : (W0.drew.alloc (.cells (gv g).toArray 69)).heap.size ≤ w2.heap.size := hgrow.size
          rw [World.size_alloc] at h4
          exact h4
        have NF : Hid (NumF w (w2.setCell ⟨T, 0, none⟩ (.slice (some ⟨gg, 0, none⟩) (k + 1) cc)) T (Value.slice ao k cp).ownBlock) := hid ⟨hgrow.os.trans HB.out.os, hgrow.tape.trans HB.out.tape, hgrow.output.trans HB.out.output, by rw [World.size_setCell]; omega, fun q hq h1 h2 => by
          rw [Below.heap_setCell _ _ _ _ h1, hgrow.block q (by show q < (W0.alloc (.cells (gv g).toArray 69)).heap.size; rw [World.size_alloc]; omega) h2]
          show (W0.alloc (.cells (gv g).toArray 69)).heap[q]? = _
          rw [Below.heap_alloc _ _ _ (by omega)]
          exact HB.out.block q hq⟩
        have OB : Hid ((Value.slice (some ⟨gg, 0, none⟩) (k + 1) cc).ownBlock = (Value.slice ao k cp).ownBlock ∨ ∃ q, (Value.slice (some ⟨gg, 0, none⟩) (k + 1) cc).ownBlock = some q ∧ w.heap.size ≤ q) := hid (by
          rcases hat with h | h
          · exact Or.inl (by rw [h]; rfl)
          · exact Or.inr ⟨gg, rfl, by omega⟩)
        refine hK.out _ _ g2 (fun hHeld => ?_)
        have HS5 := hid (g2.other ⟨T, 0, none⟩ (.slice (some ⟨gg, 0, none⟩) (k + 1) cc) (Or.inl (by show T ≠ w.heap.size; omega)))
        clear hK K hown hgrow hat g2 hrow
        simp only [Act.put, List.setIfInBounds_toArray]
        refine wpAnyH_take (i := 8) (oi := { dst := some 30, op := Op.nilCheck (.tmp 22), type := _, pos := _, after := _, guard := none }) (v := (Value.pointer (some ⟨T, 0, none⟩))) rfl (by kernel_rfl) (by kernel_rfl) (by kernel_rfl) (fun _ _ _ h => h) (Or.inl ⟨by rfl, by intro w' hSw; (try dsimp only at hSw); go_simp⟩) (by assumption) ?_
        simp only [Act.put]
        refine wpAnyH_take (i := 9) (oi := { dst := some 31, op := Op.fieldAddr _ (.tmp 30) 0, type := _, pos := _, after := _, guard := none }) (v := (Value.pointer (some ⟨T, 0, none⟩))) rfl (by kernel_rfl) (by kernel_rfl) (by kernel_rfl) (fun _ _ _ h => h) (Or.inl ⟨by rfl, by intro w' hSw; (try dsimp only at hSw); go_simp⟩) (by assumption) ?_
        simp only [Act.put]
        refine wpAnyH_ready (rs := [10]) (by kernel_rfl) (by simp) ?_
        refine AllReadyH.cons rfl (fun K hK => ?_) AllReadyH.nil
        go_simp
        refine hK.out _ _ HS5.out (fun hHeld => ?_)
        clear hK K
        refine wpAnyH_done (by kernel_rfl) ?_ _
        have e1 := EX.out.c
        clear hHeld c2 f2 cT fT
        go_wp2_with fail
        go_ret
        exact ⟨k, _, _, rfl, EX.out, NF.out, Or.inr ⟨HNE.out.symm, rfl, OB.out, fun g0 hg0 => by
          obtain ⟨i, hi, e⟩ := List.getElem_of_mem hg0
          exact HA.out i g0 (by rw [← HNE.out]; exact hi) (by rw [List.getElem?_eq_getElem hi, e])⟩⟩

end Go.Proofs.Ytjagijohfkffiab

/- The reference's parts in memory. -/
namespace Go.Proofs.Ytjagijohfkffiab
open Go.RowKit
set_option linter.unusedVariables false

def ptrTo1 (b : Nat) : Value := .pointer (some ⟨b, 0, none⟩)
def lptr (bs : List Nat) (n : Nd) : Option Addr := if leafB n.op then none else some ⟨bs.getD n.l 0, 0, none⟩
def rptr (bs : List Nat) (n : Nd) : Option Addr := if twoB n.op then some ⟨bs.getD n.r 0, 0, none⟩ else none
/-- The block of part i. -/
def partObj (bs : List Nat) (i : Nat) (n : Nd) : Obj := .cells #[.int .u8 n.op, .pointer (lptr bs n), .pointer (rptr bs n), .int .i64 i] 181 (0, 0)

/-- The formula at block F: its nodes ns, their parts' blocks bs. -/
structure Fm (w : World) (F : Nat) (ns : List Nd) (bs : List Nat) : Prop where
  c0 : ∃ ao cap, w.cell? ⟨F, 0, none⟩ = some (.slice ao ns.length cap) ∧ w.ownsRow (F + 1) 175 1 (.slice ao ns.length cap) ns.length (bs.map ptrTo1)
  f0 : w.frozen? ⟨F, 0, none⟩ = false
  len : bs.length = ns.length
  wf : Wf ns
  parts : ∀ (i : Nat) (n : Nd), ns[i]? = some n → ∃ b, bs[i]? = some b ∧ F < b ∧ w.heap[b]? = some (partObj bs i n)

/-- Blocks of cells of other types than the row's stay. -/
def Kp (F : Nat) (w w' : World) : Prop := ∀ (q : Nat) (c : Array Value) (T : TypeId), w.heap[q]? = some (.cells c T (0, 0)) → T ≠ 175 → q ≠ F → w'.heap[q]? = some (.cells c T (0, 0))

theorem heap_lt {w : World} {q : Nat} {o : Obj} (h : w.heap[q]? = some o) : q < w.heap.size := (Array.getElem?_eq_some_iff.1 h).1

theorem Kp.refl (F : Nat) (w : World) : Kp F w w := fun _ _ _ h _ _ => h
theorem Kp.trans {F : Nat} {a b c : World} (h : Kp F a b) (k : Kp F b c) : Kp F a c := fun q x T h1 h2 h3 => k q x T (h q x T h1 h2 h3) h2 h3
theorem Kp.alloc (F : Nat) (w : World) (o : Obj) : Kp F w (w.alloc o) := fun q c T h _ _ => by rw [Below.heap_alloc w o q (heap_lt h)]; exact h
theorem Kp.drew {F : Nat} {a w : World} (h : Kp F a w) : Kp F a w.drew := h
/-- A store into a block that came later, or into F. -/
theorem Kp.set {F : Nat} {a w : World} (h : Kp F a w) {P : Nat} (hP : a.heap.size ≤ P ∨ P = F) (j : Nat) (v : Value) : Kp F a (w.setCell ⟨P, j, none⟩ v) := fun q c T h1 h2 h3 => by
  have := heap_lt h1
  rw [Below.heap_setCell _ _ _ _ (by show q ≠ P; omega)]
  exact h q c T h1 h2 h3
theorem Kp.grown {F : Nat} {w w' : World} {v : Value} {n : Nat} {xs : List Value} (own : w.ownsRow (F + 1) 175 1 v n xs) (hg : w.grownBy w' v.ownBlock) : Kp F w w' := fun q c T h1 h2 h3 => by
  rw [hg.block q (heap_lt h1) (fun e => ?_)]
  · exact h1
  · rcases own.2 with ⟨hv, _⟩ | ⟨g, cap, cur, hv, _, hh, _⟩
    · rw [hv] at e; simp [Value.ownBlock] at e
    · rw [hv] at e
      simp [Value.ownBlock] at e
      subst e
      rw [h1] at hh
      simp at hh
      exact h2 hh.2

theorem own_set {w : World} {B e : Nat} {size : Nat} {v : Value} {n : Nat} {xs : List Value} (own : w.ownsRow B e size v n xs) {P : Nat} {o : Obj} (hP : w.heap[P]? = some o) (ho : ∀ c, o ≠ .cells c e (0, 0)) (j : Nat) (u : Value) :
    (w.setCell ⟨P, j, none⟩ u).ownsRow B e size v n xs := by
  obtain ⟨h1, h2⟩ := own
  refine ⟨h1, ?_⟩
  rcases h2 with h2 | ⟨g, cap, cur, hv, hb, hh, r⟩
  · exact Or.inl h2
  · refine Or.inr ⟨g, cap, cur, hv, hb, ?_, r⟩
    rw [Below.heap_setCell _ _ _ _ ?_]
    · exact hh
    · intro e'
      have e2 : g = P := e'
      subst e2
      rw [hh] at hP
      exact ho _ (Option.some.inj hP).symm

section
variable {w : World} {F : Nat} {ns : List Nd} {bs : List Nat}

theorem Fm.ltF (h : Fm w F ns bs) : F < w.heap.size := by
  obtain ⟨_, _, c, _⟩ := h.c0
  exact World.block_lt_of_cell? w ⟨F, 0, none⟩ c

theorem Fm.own (h : Fm w F ns bs) {v : Value} (hc : w.cell? ⟨F, 0, none⟩ = some v) : (∃ ao cap, v = .slice ao ns.length cap) ∧ w.ownsRow (F + 1) 175 1 v ns.length (bs.map ptrTo1) := by
  obtain ⟨ao, cap, c, own⟩ := h.c0
  rw [c] at hc
  cases hc
  exact ⟨⟨_, _, rfl⟩, own⟩

theorem Fm.lt (h : Fm w F ns bs) : ∀ b ∈ bs, b < w.heap.size ∧ F < b := by
  intro b hb
  obtain ⟨i, hi, rfl⟩ := List.getElem_of_mem hb
  obtain ⟨b', e, hF, hh⟩ := h.parts i (ns[i]'(by rw [← h.len]; exact hi)) (by simp)
  rw [List.getElem?_eq_getElem hi] at e
  cases e
  exact ⟨heap_lt hh, hF⟩

theorem Fm.alloc (h : Fm w F ns bs) (o : Obj) : Fm (w.alloc o) F ns bs := by
  obtain ⟨ao, cap, c, own⟩ := h.c0
  refine ⟨⟨ao, cap, ?_, own.alloc o⟩, ?_, h.len, h.wf, ?_⟩
  · rw [World.cell?_alloc_past _ _ _ h.ltF]; exact c
  · rw [World.frozen?_alloc_past _ _ _ h.ltF]; exact h.f0
  · intro i n hn
    obtain ⟨b, e, hF, hh⟩ := h.parts i n hn
    exact ⟨b, e, hF, by rw [Below.heap_alloc _ _ _ (heap_lt hh)]; exact hh⟩

theorem Fm.drew (h : Fm w F ns bs) : Fm w.drew F ns bs := ⟨h.c0, h.f0, h.len, h.wf, h.parts⟩

/-- A store into a part that is not yet listed. -/
theorem Fm.set (h : Fm w F ns bs) {P : Nat} (hP : P ∉ bs) (hF : P ≠ F) {o : Obj} (ho : w.heap[P]? = some o) (hne : ∀ c, o ≠ .cells c 175 (0, 0)) (j : Nat) (v : Value) : Fm (w.setCell ⟨P, j, none⟩ v) F ns bs := by
  obtain ⟨ao, cap, c, own⟩ := h.c0
  refine ⟨⟨ao, cap, ?_, own_set own ho hne j v⟩, ?_, h.len, h.wf, ?_⟩
  · rw [World.cell?_setCell_other _ _ _ _ (fun e => hF (congrArg Addr.block e))]; exact c
  · rw [World.frozen?_setCell]; exact h.f0
  · intro i n hn
    obtain ⟨b, e, hF, hh⟩ := h.parts i n hn
    refine ⟨b, e, hF, ?_⟩
    rw [Below.heap_setCell _ _ _ _ ?_]
    · exact hh
    · intro e'
      have e2 : b = P := e'
      subst e2
      exact hP (List.mem_of_getElem? e)

end

end Go.Proofs.Ytjagijohfkffiab
