/- The walks of settled, Step, Verdict; two groups are the same. -/
import Derived.Test.YtjagijohfkffiaaOutA
import Derived.ChangeKeysEq
namespace Go.Proofs.Ytjagijohfkffiaa
open Go.RowKit
set_option linter.unusedVariables false

theorem size_alloc (w : World) (o : Obj) : (w.alloc o).heap.size = w.heap.size + 1 := by simp

def upTo (f : Nat → Bool) (n : Nat) : Nat → Bool := fun j => if j < n then f j else false
theorem upTo_step (f : Nat → Bool) (n : Nat) : upd (upTo f n) n (f n) = upTo f (n + 1) := by
  funext j
  unfold upd upTo
  by_cases e : j = n
  · subst e; simp
  · by_cases h : j < n
    · simp [e, h]; intro; omega
    · simp [e, h]; intro; omega
theorem upTo_zero (f : Nat → Bool) : upTo f 0 = fun _ => false := by funext j; simp [upTo]
theorem upTo_all (f : Nat → Bool) {j : Nat} (h : j < 256) : upTo f 256 j = f j := by simp [upTo, h]
def calmB (k e : Nat) : Nat → Bool := fun v => v.testBit k == v.testBit e

set_option maxHeartbeats 1600000 in
set_option maxRecDepth 100000 in
theorem settled_any (nd : Nd) (k : Nat) (w : World) (hk : k < 8) (hl : nd.l < 8) (hr : nd.r < 8) :
    Calls Try.prog 84 #[ndV nd, .int .i64 k] w fun e w' => e = .returned (.agg (gv (calmB k (endN nd))).toArray) ∧ Below w.heap.size w w' := by
  have hE : endN nd < 8 := by unfold endN; split <;> omega
  have LE := fun W => end_any nd W
  have HZ := hid Try.groupCells
  unfold ndV at *
  go_enter Try.func84, Try.ntmps84
  go_wp2_with (refine wpList_store_grp rfl (.tmp 5) (.tmp 10) rfl (w.heap.size + 1 + 1) 0 (fun _ => false) rfl (congrArg Value.agg HZ.out) ?t1 ?_)
  case t1 =>
    have := (zero_new ((w.alloc (.cells #[.int .u8 nd.op, .int .i64 nd.l, .int .i64 nd.r] 123)).alloc (.cells Try.zeroCells81 81))).there
    simpa using this
  intro w1 S1
  have b3 : Below (w.heap.size + 1) (w.alloc (.cells #[.int .u8 nd.op, .int .i64 nd.l, .int .i64 nd.r] 123)) w1 := S1.bel _ _ (by omega) (((Below.refl _ _).alloc (by simp) _).alloc (by simp) _)
  have n0 : w1.cell? ⟨w.heap.size, 0, none⟩ = some (.int .u8 nd.op) := (b3.cell (p := ⟨w.heap.size, 0, none⟩) (by show w.heap.size < _; omega)).trans (by simp)
  have n1 : w1.cell? ⟨w.heap.size, 1, none⟩ = some (.int .i64 nd.l) := (b3.cell (p := ⟨w.heap.size, 1, none⟩) (by show w.heap.size < _; omega)).trans (by simp)
  have n2 : w1.cell? ⟨w.heap.size, 2, none⟩ = some (.int .i64 nd.r) := (b3.cell (p := ⟨w.heap.size, 2, none⟩) (by show w.heap.size < _; omega)).trans (by simp)
  clear b3
  have G5 := hid S1.at_
  have G4 : Hid (GrpAt w1 (w.heap.size + 1) 0 (fun _ => false)) := by
    have z := (zero_new (w.alloc (.cells #[.int .u8 nd.op, .int .i64 nd.l, .int .i64 nd.r] 123))).alloc (.cells Try.zeroCells81 81)
    rw [size_alloc] at z
    exact hid (S1.grp z (Or.inl (by omega)))
  have HB1 : Hid (Below w.heap.size w w1) := hid (S1.bel _ _ (by omega) ((((Below.refl _ _).alloc (Nat.le_refl _) _).alloc (by simp) _).alloc (by simp; omega) _))
  have hs1 : w1.heap.size = w.heap.size + 3 := by rw [S1.size]; simp
  clear S1
  go_wp2_with fail
  refine (LE _).mono ?_
  rintro e w2 ⟨rfl, hb2⟩
  have G5 := hid (G5.out.below hb2 (by omega))
  have G4 := hid (G4.out.below hb2 (by omega))
  have HB2 := hid (HB1.out.trans (hb2.mono (by omega)))
  clear hb2 HB1 n0 n1 n2 LE hs1
  go_wp2_with fail
  go_loopw [13] (fun i wq => ∃ j : Nat, j ≤ 256 ∧ i = .int .i64 j ∧ Hid (GrpAt wq (w.heap.size + 1 + 1) 0 (upTo (calmB k (endN nd)) j)) ∧ Hid (GrpAt wq (w.heap.size + 1) 0 (fun _ => false)) ∧ Hid (Below w.heap.size w wq)) (fun i _ => 256 - (intOf i).toNat)
  case atStart => exact ⟨0, by omega, rfl, by rw [upTo_zero]; exact G5, G4, HB2⟩
  case round =>
    obtain ⟨j, hj, rfl, H5, H4, HB⟩ := hrel
    rename World => W0
    by_cases hlj : j < 256
    · have q0 : W0.frozen? ⟨w.heap.size + 1 + 1, j, none⟩ = false := by have := H5.out.f j hlj; rwa [Nat.zero_add] at this
      have q1 : W0.cell? ⟨w.heap.size + 1 + 1, j, none⟩ = some (.bool (upTo (calmB k (endN nd)) j j)) := by have := H5.out.c j hlj; rwa [Nat.zero_add] at this
      have D5 := hid (H5.out.set hlj (calmB k (endN nd) j))
      have D4 := hid (H4.out.other ⟨w.heap.size + 1 + 1, j, none⟩ (.bool (calmB k (endN nd) j)) (Or.inl (by simp)))
      have DB := hid (HB.out.setCell (p := ⟨w.heap.size + 1 + 1, j, none⟩) (by show w.heap.size ≤ w.heap.size + 1 + 1; omega) (.bool (calmB k (endN nd) j)))
      rw [upTo_step, Nat.zero_add] at D5
      have HA := fun W => has_any j k W hlj hk
      have HC := fun W => has_any j (endN nd) W hlj hE
      unfold calmB at D4 D5 DB
      generalize upTo (calmB k (endN nd)) j j = ov at *
      go_wp2_with fail
      refine (HA _).mono ?_
      rintro e w3 ⟨rfl, rfl⟩
      go_wp2_with fail
      refine (HC _).mono ?_
      rintro e w4 ⟨rfl, rfl⟩
      clear HA HC
      go_wp2_with fail
      go_roundw
      case rel => exact ⟨j + 1, by omega, by go_num, D5, D4, DB⟩
      case measure => simp [intOf]; omega
    · obtain rfl : j = 256 := by omega
      have G := hid (H5.out.congr (fun j hj => upTo_all (calmB k (endN nd)) hj))
      go_wp2_with (first | (refine wpList_load_grp rfl (.tmp 5) rfl (w.heap.size + 1 + 1) 0 _ rfl G.out ?_) | (refine wpList_store_grp rfl (.tmp 4) (.tmp 28) rfl (w.heap.size + 1) 0 (calmB k (endN nd)) rfl rfl H4.out.there ?_))
      intro w5 S5
      go_wp2_with fail
      refine ret_group Try.results84 ?_ ?_ S5.at_ ?_
      · rfl
      · rfl
      · exact ⟨rfl, S5.bel _ _ (by omega) HB.out⟩

/-- Two groups are the same. -/
def geq (g h : Nat → Bool) : Bool := (List.range 256).all fun j => g j == h j
theorem geq_iff {g h : Nat → Bool} : geq g h = true ↔ ∀ j, j < 256 → g j = h j := by simp [geq]
theorem run_eqItems_grp (d : Nat) (g h : Nat → Bool) (w : World) : ∀ is : List Nat, (∀ i ∈ is, i < 256) → (Op.eqItems (d + 1) 4 1 (gv g).toArray (gv h).toArray is).run Try.prog w = .ok (is.all fun j => g j == h j) w
  | [], _ => by simp [Op.eqItems]
  | i :: is, hi => by
    have h0 := hi i (by simp)
    have ih := run_eqItems_grp d g h w is (fun j hj => hi j (by simp [hj]))
    have p : ∀ f : Nat → Bool, (part 4 (gv f).toArray (i * 1)).run Try.prog w = .ok (.bool (f i)) w := fun f => by
      have := gv_get f h0
      simp [part, Try.isAgg4, this]
    simp only [Op.eqItems, Sem.run_bind, p, Result.andThen_ok, run_equalIn_bool' w d 4 _ _ Try.underlying4]
    cases e : (g i == h i)
    · simp [e]
    · simp [e, ih]
theorem Try.boolSize1 : (Try.prog.info? 4).map (·.size) = some 1 := by kernel_rfl
theorem Try.boolInfo1 : ∃ i, Try.prog.info? 4 = some i ∧ i.size = 1 := by
  have h := Try.boolSize1
  cases hq : Try.prog.info? 4 with
  | none => simp [hq] at h
  | some i => simp [hq] at h; exact ⟨i, rfl, h⟩
theorem run_equal_grp (d : Nat) (g h : Nat → Bool) (w : World) : (Op.equalIn (d + 1 + 1) 81 (.agg (gv g).toArray) (.agg (gv h).toArray)).run Try.prog w = .ok (geq g h) w := by
  obtain ⟨i, hi, hs⟩ := Try.boolInfo1
  rw [run_equalIn_array w (d + 1) _ _ Try.groupUnder hi]
  have : Try.prog.cellsOf 4 = 1 := by kernel_rfl
  rw [this]
  exact run_eqItems_grp d g h w _ (fun j hj => by simpa using hj)
theorem run_eql_grp (g h : Nat → Bool) (w : World) : (binOp .eql 81 (.agg (gv g).toArray) (.agg (gv h).toArray)).run Try.prog w = .ok (.bool (geq g h)) w := by
  rw [run_eql_struct, run_equal_grp]; rfl
theorem run_neq_grp (g h : Nat → Bool) (w : World) : (binOp .neq 81 (.agg (gv g).toArray) (.agg (gv h).toArray)).run Try.prog w = .ok (.bool (!geq g h)) w := by
  rw [run_neq_struct, run_equal_grp]; rfl

end Go.Proofs.Ytjagijohfkffiaa
