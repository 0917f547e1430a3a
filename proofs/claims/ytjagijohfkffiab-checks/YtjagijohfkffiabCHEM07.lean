import Derived.Test.YtjagijohfkffiabCHEM01
import Derived.Test.YtjagijohfkffiabCHEM06
import Derived.Deep.RegionHeld3

/- Lists of groups in memory, and the walks of both, same. -/
namespace Go.Proofs.Ytjagijohfkffiab
open Go.RowKit
set_option linter.unusedVariables false

/-- A list of groups: a row of bools, 256 a group. -/
structure FlatG (w : World) (g N : Nat) (f : Nat → Bool) : Prop where
  c : ∀ i, i < N → w.cell? ⟨g, i, none⟩ = some (.bool (f i))
  f : ∀ i, i < N → w.frozen? ⟨g, i, none⟩ = false
theorem FlatG.below {B : Nat} {w w' : World} {g N : Nat} {f : Nat → Bool} (h : FlatG w g N f) (hb : Below B w w') (hlt : g < B) : FlatG w' g N f :=
  ⟨fun j hj => (hb.cell (p := ⟨g, j, none⟩) hlt).trans (h.c j hj), fun j hj => (hb.frozen (p := ⟨g, j, none⟩) hlt).trans (h.f j hj)⟩
theorem FlatG.drew {w : World} {g N : Nat} {f : Nat → Bool} (h : FlatG w g N f) : FlatG w.drew g N f := ⟨h.c, h.f⟩
theorem FlatG.congr {w : World} {g N : Nat} {f f' : Nat → Bool} (h : FlatG w g N f) (e : ∀ j, j < N → f j = f' j) : FlatG w g N f' := ⟨fun j hj => by rw [h.c j hj, e j hj], h.f⟩
theorem FlatG.set {w : World} {g N : Nat} {f : Nat → Bool} (h : FlatG w g N f) (i : Nat) (v : Bool) : FlatG (w.setCell ⟨g, i, none⟩ (.bool v)) g N (upd f i v) := by
  refine ⟨fun j hj => ?_, fun j hj => by rw [World.frozen?_setCell]; exact h.f j hj⟩
  by_cases e : j = i
  · subst e
    rw [World.cell?_setCell_same _ _ _ (h.c j hj)]
    simp [upd]
  · rw [World.cell?_setCell_other _ ⟨g, i, none⟩ ⟨g, j, none⟩ _ (fun q => e (by have := congrArg Addr.off q; simp at this; omega)), h.c j hj]
    simp [upd, e]
theorem FlatG.other {w : World} {g N : Nat} {f : Nat → Bool} (h : FlatG w g N f) (p : Addr) (v : Value) (hp : p.block ≠ g) : FlatG (w.setCell p v) g N f := by
  refine ⟨fun j hj => ?_, fun j hj => by rw [World.frozen?_setCell]; exact h.f j hj⟩
  rw [World.cell?_setCell_other _ p ⟨g, j, none⟩ _ (fun q => hp (congrArg Addr.block q))]
  exact h.c j hj
theorem FlatG.grp {w : World} {g N : Nat} {f : Nat → Bool} (h : FlatG w g N f) {t : Nat} (ht : t * 256 + 256 ≤ N) : GrpAt w g (t * 256) (fun j => f (t * 256 + j)) :=
  ⟨fun j hj => h.c _ (by omega), fun j hj => h.f _ (by omega)⟩
theorem FlatG.stored {w w1 : World} {b o g N : Nat} {f g' : Nat → Bool} (h : FlatG w g N f) (s : StoredG w b o g' w1) (hne : g ≠ b) : FlatG w1 g N f :=
  ⟨fun j hj => by rw [s.cell ⟨g, j, none⟩ (Or.inl hne)]; exact h.c j hj, fun j hj => by rw [s.fz]; exact h.f j hj⟩
theorem FlatG.grown {w w' : World} {g N : Nat} {f : Nat → Bool} (h : FlatG w g N f) (hg : w.grownBy w' none) (hlt : g < w.heap.size) : FlatG w' g N f :=
  h.below ((Below.refl w.heap.size w).grown hg (Nat.le_refl _) (fun k h => by cases h)) hlt

theorem Try.infoGroup : (Try.prog.info? 69).map (fun i => (i.zero, i.size, i.bytes)) = some (some (.agg (gv fun _ => false).toArray), 256, 256) := by kernel_rfl

theorem flat_made {w : World} {base g n : Nat} (h : w.ownsRow base 69 256 (.slice (some ⟨g, 0, none⟩) n n) n (madeCells (gv fun _ => false).toArray (n * 256)).toList) : FlatG w g (n * 256) (fun _ => false) := by
  refine ⟨fun i hi => ?_, fun i hi => World.ownsRow.frozenAt h i⟩
  rw [World.ownsRow.cellAt h i (by omega)]
  have h1 : (madeCells (gv fun _ => false).toArray (n * 256)).toList[i]? = some ((gv fun _ => false).toArray[i % (gv fun _ => false).toArray.size]!) := by
    simp [madeCells, hi]
  rw [h1]
  have h2 : i % 256 < 256 := Nat.mod_lt _ (by omega)
  simp [gv, h2]

/-- make([]Group, n) -/
theorem wpList_make_groups {ops : Array Oper} {rest : List Oper} {o : Oper} {a : Act} {Q : Exit → Act → World → Prop} (w : World) (hg : o.guard = none) (l : Operand) (hop : o.op = Op.makeSlice 67 l l) (n : Nat) (hl : a.eval l = .int .i64 n) (hn : n ≤ 1099511627776)
    (hK : ∀ w', FlatG w' w.heap.size (n * 256) (fun _ => false) → w.heap.size < w'.heap.size → Below w.heap.size w w' → wpList Try.prog ops Q rest (a.put o.dst (.slice (some ⟨w.heap.size, 0, none⟩) n n)) w') :
    wpList Try.prog ops Q (o :: rest) a w := by
  obtain ⟨i0, hi, hz0, hz1, hz2⟩ := info_parts Try.infoGroup
  refine wpList_make_full w hg l l 67 hop w.heap.size 69 i0 (.agg (gv fun _ => false).toArray) 256 Try.underlying67 hi hz0 hz1 .i64 .i64 n n n hl hl rfl rfl ?_ ?_ (Nat.le_refl _) ?_
  · rw [hz2]; omega
  · unfold maxLen; omega
  · intro w' own grow
    exact hK w' (flat_made own) (own.lt _ rfl).2 ((Below.refl _ _).grown grow (Nat.le_refl _) (fun k h => by cases h))

def bothB (f wt : Nat → Bool) : Nat → Bool := fun x => f x && wt (x % 256)

theorem run_index_grp (f : Nat → Bool) {j : Nat} (hj : j < 256) (W : World) : (Instr.index 69 (.agg (gv f).toArray) (.int .i64 (j : Nat))).run Try.prog W = .ok (.bool (f j)) W :=
  run_index_one W Try.groupUnder (fun w => run_isAgg_bool Try.underlying4 w) Try.boolSize1 hj (by simpa using gv_get f hj)

set_option maxHeartbeats 4000000 in
set_option maxRecDepth 100000 in
theorem both_any (g n cap : Nat) (f wt : Nat → Bool) (w : World) (hn : n ≤ 1099511627776) (hf : FlatG w g (n * 256) f) (hg : g < w.heap.size) :
    Calls Try.prog 119 #[.slice (some ⟨g, 0, none⟩) n cap, .agg (gv wt).toArray] w fun e w' => ∃ g', e = .returned (.slice (some ⟨g', 0, none⟩) n n) ∧ w.heap.size ≤ g' ∧ g' < w'.heap.size ∧ FlatG w' g' (n * 256) (bothB f wt) ∧ Below w.heap.size w w' := by
  have HF := hid hf
  clear hf
  go_enter Try.func119, Try.ntmps119
  go_wp2_with (at_make; go_must (refine wpList_make_groups _ rfl (.tmp 11) rfl n rfl hn ?_))
  intro w1 F1 hlt1 hb1
  have G3 := hid ((grp_new w wt 69).below hb1 (by omega))
  have F5 := hid F1
  have HB1 := hid (((Below.refl w.heap.size w).alloc (Nat.le_refl _) (.cells (gv wt).toArray 69)).trans (hb1.mono (by omega)))
  clear F1 hb1
  go_wp2_with fail
  go_loopw [15] (fun i wq => ∃ t : Nat, t ≤ n ∧ i = .int .i64 t ∧ Hid (FlatG wq (w.heap.size + 1) (n * 256) (upTo (bothB f wt) (t * 256))) ∧ Hid (GrpAt wq w.heap.size 0 wt) ∧ w.heap.size + 1 < wq.heap.size ∧ Hid (Below w.heap.size w wq)) (fun i _ => n - (intOf i).toNat)
  case atStart => exact ⟨0, Nat.zero_le _, rfl, by rw [Nat.zero_mul, upTo_zero]; exact F5, G3, hlt1, HB1⟩
  case round =>
    obtain ⟨t, ht, rfl, H5, H3, hz, HB⟩ := hrel
    rename World => W0
    by_cases hlt : t < n
    · have GG := hid ((HF.out.below HB.out hg).grp (t := t) (by omega))
      go_wp2_with (first | (refine wpList_load_grp rfl (.tmp 18) rfl g (t * 256) _ rfl GG.out ?_) | (refine wpList_store_grp rfl (.tmp 7) (.tmp 19) rfl W0.heap.size 0 (fun j => f (t * 256 + j)) rfl rfl (zero_new W0).there ?_))
      intro w2 S2
      have A7 := hid S2.at_
      have A3 := hid (S2.grp (H3.out.alloc (.cells Try.zeroCells69 69)) (Or.inl (by omega)))
      have A5 := hid ((H5.out.below ((Below.refl W0.heap.size W0).alloc (Nat.le_refl _) (.cells Try.zeroCells69 69)) (by omega)).stored S2 (by omega))
      have AB := hid (S2.bel _ _ (by omega) (HB.out.alloc (by omega) (.cells Try.zeroCells69 69)))
      have hz2 : w.heap.size + 1 < w2.heap.size := by rw [S2.size, size_alloc]; omega
      clear S2 GG
      go_wp2_with (refine wpList_load_grp rfl (.tmp 7) rfl W0.heap.size 0 _ rfl A7.out ?_)
      go_loopw [21] (fun i wq => ∃ j : Nat, j ≤ 256 ∧ i = .int .i64 j ∧ Hid (FlatG wq (w.heap.size + 1) (n * 256) (upTo (bothB f wt) (t * 256 + j))) ∧ Hid (GrpAt wq w.heap.size 0 wt) ∧ w.heap.size + 1 < wq.heap.size ∧ Hid (Below w.heap.size w wq)) (fun i _ => 256 - (intOf i).toNat)
      case atStart => exact ⟨0, by omega, rfl, A5, A3, hz2, AB⟩
      case round =>
        obtain ⟨j, hj, rfl, H5, H3, hz3, HB⟩ := hrel
        rename World => W3
        by_cases hlj : j < 256
        · have q0 := H5.out.f (t * 256 + j) (by omega)
          have q1 := H5.out.c (t * 256 + j) (by omega)
          have q2 : W3.cell? ⟨w.heap.size, j, none⟩ = some (.bool (wt j)) := by have := H3.out.c j hlj; rwa [Nat.zero_add] at this
          have ix := fun W => run_index_grp (fun j => f (t * 256 + j)) hlj W
          have e0 : bothB f wt (t * 256 + j) = (f (t * 256 + j) && wt j) := by unfold bothB; rw [show (t * 256 + j) % 256 = j by omega]
          have D5 := hid (H5.out.drew.set (t * 256 + j) (bothB f wt (t * 256 + j)))
          have D3 := hid (H3.out.drew.other ⟨w.heap.size + 1, t * 256 + j, none⟩ (.bool (bothB f wt (t * 256 + j))) (Or.inl (by simp)))
          have DB := hid (HB.out.drew.setCell (p := ⟨w.heap.size + 1, t * 256 + j, none⟩) (by show w.heap.size ≤ w.heap.size + 1; omega) (.bool (bothB f wt (t * 256 + j))))
          rw [upTo_step] at D5
          generalize upTo (bothB f wt) (t * 256 + j) (t * 256 + j) = ov at *
          generalize bothB f wt (t * 256 + j) = sv at *
          generalize f (t * 256 + j) = fv at *
          generalize wt j = wv at *
          subst e0
          cases fv with
          | false =>
            simp only [Bool.false_and] at D5 D3 DB
            go_wp2_with fail
            refine wp_region_held_drew (S := fun _ => True) (by kernel_rfl) trivial (fun hHeld => ?_)
            refine wpAnyH_take (i := 0) (oi := { dst := some 25, op := Op.move (.tmp 5), type := _, pos := _, after := _, guard := none }) (v := (Value.slice (some ⟨w.heap.size + 1, 0, none⟩) n n)) rfl (by kernel_rfl) (by kernel_rfl) (by kernel_rfl) (fun _ _ _ h => h) (Or.inl ⟨by rfl, by intro w' hSw; (try dsimp only at hSw); go_simp⟩) (by assumption) ?_
            simp only [Act.put, List.setIfInBounds_toArray, List.set_cons_zero, List.set_cons_succ]
            refine wpAnyH_take (i := 1) (oi := { dst := some 26, op := Op.move (.tmp 6), type := _, pos := _, after := _, guard := none }) (v := (Value.int .i64 (t : Nat))) rfl (by kernel_rfl) (by kernel_rfl) (by kernel_rfl) (fun _ _ _ h => h) (Or.inl ⟨by rfl, by intro w' hSw; (try dsimp only at hSw); go_simp⟩) (by assumption) ?_
            simp only [Act.put, List.setIfInBounds_toArray, List.set_cons_zero, List.set_cons_succ]
            refine wpAnyH_take (i := 2) (oi := { dst := some 27, op := Op.move (.tmp 8), type := _, pos := _, after := _, guard := none }) (v := (Value.int .i64 (j : Nat))) rfl (by kernel_rfl) (by kernel_rfl) (by kernel_rfl) (fun _ _ _ h => h) (Or.inl ⟨by rfl, by intro w' hSw; (try dsimp only at hSw); go_simp⟩) (by assumption) ?_
            simp only [Act.put, List.setIfInBounds_toArray, List.set_cons_zero, List.set_cons_succ]
            refine wpAnyH_take (i := 3) (oi := { dst := some 28, op := Op.move (.tmp 9), type := _, pos := _, after := _, guard := none }) (v := (Value.bool false)) rfl (by kernel_rfl) (by kernel_rfl) (by kernel_rfl) (fun _ _ _ h => h) (Or.inl ⟨by rfl, by intro w' hSw; (try dsimp only at hSw); go_simp⟩) (by assumption) ?_
            simp only [Act.put, List.setIfInBounds_toArray, List.set_cons_zero, List.set_cons_succ]
            refine wpAnyH_take (i := 4) (oi := { dst := some 29, op := Op.move (.tmp 28), type := _, pos := _, after := _, guard := none }) (v := (Value.bool false)) rfl (by kernel_rfl) (by kernel_rfl) (by kernel_rfl) (fun _ _ _ h => h) (Or.inl ⟨by rfl, by intro w' hSw; (try dsimp only at hSw); go_simp⟩) (by assumption) ?_
            simp only [Act.put, List.setIfInBounds_toArray, List.set_cons_zero, List.set_cons_succ]
            refine wpAnyH_take (i := 5) (oi := { dst := some 30, op := Op.move (.tmp 8), type := _, pos := _, after := _, guard := some (4, true) }) (v := undef) rfl (by kernel_rfl) (by kernel_rfl) (by kernel_rfl) (fun _ _ _ h => h) (Or.inr ⟨by rfl, rfl⟩) (by assumption) ?_
            simp only [Act.put, List.setIfInBounds_toArray, List.set_cons_zero, List.set_cons_succ]
            refine wpAnyH_take (i := 6) (oi := { dst := some 31, op := Op.indexAddr _ (.tmp 3) (.tmp 30), type := _, pos := _, after := _, guard := some (4, true) }) (v := undef) rfl (by kernel_rfl) (by kernel_rfl) (by kernel_rfl) (fun _ _ _ h => h) (Or.inr ⟨by rfl, rfl⟩) (by assumption) ?_
            simp only [Act.put, List.setIfInBounds_toArray, List.set_cons_zero, List.set_cons_succ]
            refine wpAnyH_take (i := 7) (oi := { dst := some 32, op := Op.load _ (.tmp 31), type := _, pos := _, after := _, guard := some (4, true) }) (v := undef) rfl (by kernel_rfl) (by kernel_rfl) (by kernel_rfl) (fun _ _ _ h => h) (Or.inr ⟨by rfl, rfl⟩) (by assumption) ?_
            simp only [Act.put, List.setIfInBounds_toArray, List.set_cons_zero, List.set_cons_succ]
            refine wpAnyH_take (i := 8) (oi := { dst := some 33, op := Op.pick (.tmp 29) (.tmp 32) (Operand.const (Value.bool false)), type := _, pos := _, after := _, guard := none }) (v := (Value.bool false)) rfl (by kernel_rfl) (by kernel_rfl) (by kernel_rfl) (fun _ _ _ h => h) (Or.inl ⟨by rfl, by intro w' hSw; (try dsimp only at hSw); go_simp⟩) (by assumption) ?_
            simp only [Act.put, List.setIfInBounds_toArray, List.set_cons_zero, List.set_cons_succ]
            refine wpAnyH_take (i := 9) (oi := { dst := some 34, op := Op.indexAddr _ (.tmp 25) (.tmp 26), type := _, pos := _, after := _, guard := none }) (v := (Value.pointer (some ⟨w.heap.size + 1, t * 256, none⟩))) rfl (by kernel_rfl) (by kernel_rfl) (by kernel_rfl) (fun _ _ _ h => h) (Or.inl ⟨by rfl, by intro w' hSw; (try dsimp only at hSw); go_simp⟩) (by assumption) ?_
            simp only [Act.put, List.setIfInBounds_toArray, List.set_cons_zero, List.set_cons_succ]
            refine wpAnyH_take (i := 10) (oi := { dst := some 35, op := Op.indexAddr _ (.tmp 34) (.tmp 27), type := _, pos := _, after := _, guard := none }) (v := (Value.pointer (some ⟨w.heap.size + 1, t * 256 + j, none⟩))) rfl (by kernel_rfl) (by kernel_rfl) (by kernel_rfl) (fun _ _ _ h => h) (Or.inl ⟨by rfl, by intro w' hSw; (try dsimp only at hSw); go_simp⟩) (by assumption) ?_
            simp only [Act.put, List.setIfInBounds_toArray, List.set_cons_zero, List.set_cons_succ]
            refine wpAnyH_ready (rs := [11]) (by kernel_rfl) (by simp) ?_
            refine AllReadyH.cons rfl (fun K hK => ?_) AllReadyH.nil
            go_simp
            refine hK.out _ _ trivial (fun hHeld => ?_)
            clear hK K
            refine wpAnyH_done (by kernel_rfl) ?_ _
            go_wp2_with fail
            go_roundw
            case rel => exact ⟨j + 1, by omega, by go_num, D5, D3, by simp; omega, DB⟩
            case measure => simp [intOf]; omega
          | true =>
            simp only [Bool.true_and] at D5 D3 DB
            go_wp2_with fail
            go_region_held3 (fun w' => w'.cell? ⟨w.heap.size, j, none⟩ = some (.bool wv)) (go_keep) (fail)
            go_wp2_with fail
            go_roundw
            case rel => exact ⟨j + 1, by omega, by go_num, D5, D3, by simp; omega, DB⟩
            case measure => simp [intOf]; omega
        · obtain rfl : j = 256 := by omega
          go_wp2_with fail
          go_roundw
          case rel => exact ⟨t + 1, by omega, by go_num, by rw [show (t + 1) * 256 = t * 256 + 256 by omega]; exact H5, H3, hz3, HB⟩
          case measure => simp [intOf]; omega
    · obtain rfl : t = n := by omega
      go_wp2_with fail
      go_ret
      exact ⟨_, rfl, by omega, hz, H5.out.congr (fun j hj => by simp [upTo, hj]), HB.out⟩

end Go.Proofs.Ytjagijohfkffiab

/- Rows of a call's own, and structs of two cells: what is kept, what lies apart. -/
namespace Go.Proofs.Ytjagijohfkffiab
open Go.RowKit
set_option linter.unusedVariables false

theorem own_keeps {B : Nat} {e : TypeId} {k : Nat} {v : Value} {n : Nat} {xs : List Value} {w w' : World} (h : w.ownsRow B e k v n xs) (hb : Below w.heap.size w w') : w'.ownsRow B e k v n xs :=
  h.kept (row := none) ⟨hb.os, hb.tape, hb.output, hb.size, fun j hj _ => hb.block j hj⟩ (by cases hv : v.ownBlock <;> simp)

/-- A row of the call's own that has something in it: where it lies. -/
theorem own_at' {w : World} {B e size n cap : Nat} {ao : Option Addr} {xs : List Value} (h : w.ownsRow B e size (.slice ao n cap) n xs) (hn : 0 < n) : ∃ g, ao = some ⟨g, 0, none⟩ ∧ B ≤ g ∧ g < w.heap.size ∧ n ≤ cap := by
  rcases h.2 with ⟨e, h0⟩ | ⟨g, cap', cur, e, hb, hh, hc, _⟩
  · omega
  · cases e
    exact ⟨g, rfl, hb, (Array.getElem?_eq_some_iff.1 hh).1, hc⟩

/-- Two rows of unlike elements lie apart. -/
theorem own_ne' {w : World} {B B' e e' size size' n n' : Nat} {v v' : Value} {xs xs' : List Value} (h : w.ownsRow B e size v n xs) (h' : w.ownsRow B' e' size' v' n' xs') (hne : e ≠ e') : v.ownBlock = none ∨ v.ownBlock ≠ v'.ownBlock := by
  rcases h.2 with ⟨rfl, _⟩ | ⟨g, cap, cur, rfl, _, hg, _⟩
  · exact Or.inl rfl
  · rcases h'.2 with ⟨rfl, _⟩ | ⟨g', cap', cur', rfl, _, hg', _⟩
    · exact Or.inr (by simp [Value.ownBlock])
    · refine Or.inr fun e => ?_
      simp [Value.ownBlock] at e
      subst e
      rw [hg] at hg'
      simp at hg'
      exact hne hg'.2

theorem own_set_other {w : World} {base : Nat} {e : TypeId} {size : Nat} {v : Value} {n : Nat} {xs : List Value} (h : w.ownsRow base e size v n xs) {k : Nat} (hk : k < base) (o : Nat) (u : Value) : (w.setCell ⟨k, o, none⟩ u).ownsRow base e size v n xs := ownsRow_setCell_below h (by simpa using hk) u

theorem own_slice {w : World} {B : Nat} {e : TypeId} {size : Nat} {v : Value} {n : Nat} {xs : List Value} (h : w.ownsRow B e size v n xs) : ∃ ao cap, v = .slice ao n cap := by
  rcases h.2 with ⟨rfl, rfl⟩ | ⟨g, cap, cur, rfl, _⟩
  · exact ⟨none, 0, rfl⟩
  · exact ⟨_, cap, rfl⟩

theorem row_own {w : World} {B : Nat} {v : Value} {n : Nat} {xs : List Value} {e : TypeId} {size : Nat} (h : w.ownsRow B e size v n xs) (hn : 0 < n) : ∃ g cap, v = .slice (some ⟨g, 0, none⟩) n cap ∧ B ≤ g ∧ g < w.heap.size ∧ n ≤ cap := by
  rcases h.2 with ⟨_, h0⟩ | ⟨g, cap, cur, rfl, hb, hg, hc, _⟩
  · omega
  · exact ⟨g, cap, rfl, hb, (Array.getElem?_eq_some_iff.1 hg).1, hc⟩

/-- A struct of two one-cell fields, in a block of its own. -/
structure Two (w : World) (b : Nat) (x y : Value) : Prop where
  c0 : w.cell? ⟨b, 0, none⟩ = some x
  c1 : w.cell? ⟨b, 1, none⟩ = some y
  f0 : w.frozen? ⟨b, 0, none⟩ = false
  f1 : w.frozen? ⟨b, 1, none⟩ = false

theorem Two.lt {w : World} {b : Nat} {x y : Value} (h : Two w b x y) : b < w.heap.size := World.block_lt_of_cell? w ⟨b, 0, none⟩ h.c0
theorem two_new (w : World) (x y : Value) (t : TypeId) : Two (w.alloc (.cells #[x, y] t)) w.heap.size x y := ⟨by simp, by simp, by simp, by simp⟩
theorem Two.below {B : Nat} {w w' : World} {b : Nat} {x y : Value} (h : Two w b x y) (hb : Below B w w') (hlt : b < B) : Two w' b x y :=
  ⟨(hb.cell (p := ⟨b, 0, none⟩) hlt).trans h.c0, (hb.cell (p := ⟨b, 1, none⟩) hlt).trans h.c1, (hb.frozen (p := ⟨b, 0, none⟩) hlt).trans h.f0, (hb.frozen (p := ⟨b, 1, none⟩) hlt).trans h.f1⟩
theorem Two.set0 {w : World} {b : Nat} {x y : Value} (h : Two w b x y) (v : Value) : Two (w.setCell ⟨b, 0, none⟩ v) b v y :=
  ⟨World.cell?_setCell_same _ _ _ h.c0, by rw [World.cell?_setCell_other _ _ _ _ (by simp)]; exact h.c1, by rw [World.frozen?_setCell]; exact h.f0, by rw [World.frozen?_setCell]; exact h.f1⟩
theorem Two.set1 {w : World} {b : Nat} {x y : Value} (h : Two w b x y) (v : Value) : Two (w.setCell ⟨b, 1, none⟩ v) b x v :=
  ⟨by rw [World.cell?_setCell_other _ _ _ _ (by simp)]; exact h.c0, World.cell?_setCell_same _ _ _ h.c1, by rw [World.frozen?_setCell]; exact h.f0, by rw [World.frozen?_setCell]; exact h.f1⟩
theorem Two.other {w : World} {b k o : Nat} {x y : Value} (h : Two w b x y) (hk : k ≠ b) (v : Value) : Two (w.setCell ⟨k, o, none⟩ v) b x y :=
  ⟨by rw [World.cell?_setCell_other _ _ _ _ (fun e => hk (congrArg Addr.block e))]; exact h.c0, by rw [World.cell?_setCell_other _ _ _ _ (fun e => hk (congrArg Addr.block e))]; exact h.c1, by rw [World.frozen?_setCell]; exact h.f0, by rw [World.frozen?_setCell]; exact h.f1⟩


end Go.Proofs.Ytjagijohfkffiab
