/- The walks of anyWay, findLiving. -/
import Derived.Test.YtjagijohfkffiaaWays
namespace Go.Proofs.Ytjagijohfkffiaa
open Go.RowKit
set_option linter.unusedVariables false

theorem Try.infoSteps : (Try.prog.info? 192).map (fun i => (i.zero, i.size, i.bytes)) = some (some (.slice none 0 0), 1, 24) := by kernel_rfl
theorem Try.waysSize : (Try.prog.info? 175).map (·.size) = some 1 := by kernel_rfl

/-- The ways are handed back through a cell. -/
theorem ret_ways {fn : Func} {c b : Nat} {v : Value} {a : Act} {w : World} {R : Ending → World → Prop} (h : fn.results = #[.cell c 175]) (hd : a.defers = []) (hp : a.tmps.getD c undef = .pointer (some ⟨b, 0, none⟩))
    (hg : w.cell? ⟨b, 0, none⟩ = some v) (hR : R (.returned (.agg #[v])) w) : bodyPost Try.prog fn R .ret a w := by
  refine bodyPost_ret (v := .agg #[v]) ?_ hd hR
  rw [results_one_cell h, hp]
  simp only [asAddr, Sem.run_pure, Result.andThen_ok]
  refine run_loadVar_mid w b 0 _ [v] _ (fun j u hj => ?_) Try.underlying175 rfl Try.waysSize
  cases j with
  | zero => simp at hj; subst hj; simpa using hg
  | succ j => simp at hj

def anyInto (k : Nat) : Nat → List (Nat × Nat) := fun t => if t = 0 then (List.range k).map fun l => (0, l) else []
theorem anyInto_zero : anyInto 0 = fun _ => [] := by funext t; simp [anyInto]
theorem anyInto_step (k : Nat) : updW (anyInto k) 0 (anyInto k 0 ++ [(0, k)]) = anyInto (k + 1) := by
  funext t
  unfold updW anyInto
  by_cases e : t = 0
  · simp [e, List.range_succ]
  · simp [e]
theorem anyInto_ways : WaysP 1 (anyInto 8) := ⟨by omega, fun t ht st hs => by
  obtain rfl : t = 0 := by omega
  simp [anyInto] at hs
  obtain ⟨l, hl, rfl⟩ := hs
  exact ⟨by omega, hl⟩, fun t ht => by
  obtain rfl : t = 0 := by omega
  simp [anyInto]⟩

set_option maxHeartbeats 8000000 in
set_option maxRecDepth 100000 in
theorem anyWay_any (w : World) : Calls Try.prog 112 #[] w fun e w' => ∃ g, e = .returned (.agg #[.slice (some ⟨g, 0, none⟩) 1 1]) ∧ WaysM w' g 1 (anyInto 8) ∧ Below w.heap.size w w' := by
  obtain ⟨i0, hi, hz0, hz1, hz2⟩ := info_parts Try.infoSteps
  go_enter Try.func112, Try.ntmps112
  go_wp2_with (at_make; go_must (refine wpList_make_full _ rfl (.const (.int .i64 1)) (.const (.int .i64 1)) 173 rfl (w.heap.size + 1) 192 i0 (.slice none 0 0) 1 Try.underlying173 hi hz0 hz1 .i64 .i64 1 1 1 rfl rfl rfl rfl ?m2 ?m3 (by simp) ?_))
  case m2 => rw [hz2]; omega
  case m3 => unfold maxLen; omega
  intro w1 own1 grow1
  have eo : (madeCells #[Value.slice none 0 0] (1 * 1)).toList = (List.range 1).map (fun _ => Value.slice none 0 0) := by rw [toList_madeCells_one]; rfl
  have o1 : w1.ownsRow (w.heap.size + 1) 192 1 (.slice (some ⟨w.heap.size + 1, 0, none⟩) 1 1) 1 ((List.range 1).map (fun _ => Value.slice none 0 0)) := by rw [← eo]; exact own1
  have hlt : w.heap.size + 1 < w1.heap.size := (o1.lt _ rfl).2
  have b0 := ((Below.refl (w.heap.size + 1) (w.alloc (.cells #[.slice none 0 0] 175))).grown grow1 (by simp) (fun k h => by cases h))
  have R0 : w1.cell? ⟨w.heap.size, 0, none⟩ = some (.slice none 0 0) := (b0.cell (p := ⟨w.heap.size, 0, none⟩) (by show w.heap.size < w.heap.size + 1; omega)).trans (by simp)
  have R1 : w1.frozen? ⟨w.heap.size, 0, none⟩ = false := (b0.frozen (p := ⟨w.heap.size, 0, none⟩) (by show w.heap.size < w.heap.size + 1; omega)).trans (by simp)
  have HB1 : Hid (Below w.heap.size w w1) := hid (((Below.refl w.heap.size w).alloc (Nat.le_refl _) (.cells #[.slice none 0 0] 175)).trans (b0.mono (by omega)))
  have M1 : Hid (WyM (w1.alloc (.cells #[.slice (some ⟨w.heap.size + 1, 0, none⟩) 1 1] 175)) w1.heap.size (w.heap.size + 1) 1 (fun _ => .slice none 0 0) (anyInto 0)) := hid ⟨hlt, by simp, o1.alloc _, fun j hj => by rw [anyInto_zero]; exact World.ownsRow_nil _ _ _ _, fun i j hi hj h => by omega⟩
  have HR : Hid ((w1.alloc (.cells #[.slice (some ⟨w.heap.size + 1, 0, none⟩) 1 1] 175)).cell? ⟨w.heap.size, 0, none⟩ = some (.slice none 0 0) ∧ (w1.alloc (.cells #[.slice (some ⟨w.heap.size + 1, 0, none⟩) 1 1] 175)).frozen? ⟨w.heap.size, 0, none⟩ = false) := hid ⟨by rw [World.cell?_alloc_lt _ _ _ (by show w.heap.size < w1.heap.size; omega)]; exact R0, by rw [World.frozen?_alloc_past _ _ _ (by show w.heap.size < w1.heap.size; omega)]; exact R1⟩
  have HB2 := hid (HB1.out.alloc (by omega) (.cells #[.slice (some ⟨w.heap.size + 1, 0, none⟩) 1 1] 175))
  clear own1 grow1 eo o1 b0 R0 R1 HB1
  go_wp2_with fail
  generalize w1.heap.size = T at *
  go_loopw [2] (fun i wq => ∃ (k : Nat) (V : Nat → Value), k ≤ 8 ∧ i = .int .i64 k ∧ Hid (WyM wq T (w.heap.size + 1) 1 V (anyInto k)) ∧ Hid (wq.cell? ⟨w.heap.size, 0, none⟩ = some (.slice none 0 0) ∧ wq.frozen? ⟨w.heap.size, 0, none⟩ = false) ∧ Hid (Below w.heap.size w wq)) (fun i _ => 8 - (intOf i).toNat)
  case atStart => exact ⟨0, _, by omega, rfl, M1, HR, HB2⟩
  case round =>
    obtain ⟨k, V, hk, rfl, HM, HR, HB⟩ := hrel
    rename World => W0
    by_cases hlk : k < 8
    · go_wp2_with fail
      refine (wadd_any T (w.heap.size + 1) 1 0 k 0 V (anyInto k) W0 HM.out (by omega) (by omega) hlk (by omega) (by simp [anyInto]; omega)).mono ?_
      rintro e w2 ⟨rfl, ⟨V', hm⟩, hb⟩
      rw [anyInto_step] at hm
      have HM2 := hid hm
      have HR2 := hid (And.intro ((hb.cell (p := ⟨w.heap.size, 0, none⟩) (by show w.heap.size < w.heap.size + 1; omega)).trans HR.out.1) ((hb.frozen (p := ⟨w.heap.size, 0, none⟩) (by show w.heap.size < w.heap.size + 1; omega)).trans HR.out.2))
      have HB3 := hid (HB.out.trans (hb.mono (by omega)))
      clear hm hb
      go_wp2_with fail
      go_roundw
      case rel => exact ⟨k + 1, V', by omega, by go_num, HM2, HR2, HB3⟩
      case measure => simp [intOf]; omega
    · obtain rfl : k = 8 := by omega
      have c1 := HM.out.cell
      have r0 := HR.out.1
      have r1 := HR.out.2
      have hw := HM.out.ways
      have HW : Hid (WaysM (W0.setCell ⟨w.heap.size, 0, none⟩ (.slice (some ⟨w.heap.size + 1, 0, none⟩) 1 1)) (w.heap.size + 1) 1 (anyInto 8)) := hid (by
        obtain ⟨ao, cap, h1, h2⟩ := hw.row 0 (by omega)
        refine ⟨by simpa using hw.lt, fun t ht => ?_⟩
        obtain rfl : t = 0 := by omega
        refine ⟨ao, cap, ?_, fun h0 => ?_⟩
        · rw [World.cell?_setCell_other _ _ _ _ (fun e => by have := congrArg Addr.block e; simp at this)]; exact h1
        · obtain ⟨gr, h3, h4, h5⟩ := h2 h0
          have hne : gr ≠ w.heap.size := fun e => by
            have h6 := (h5 0 (0, 0) (by simp [anyInto])).1
            rw [e, Nat.zero_mul, r0] at h6
            cases h6
          refine ⟨gr, h3, by simpa using h4, fun j st hj => ?_⟩
          obtain ⟨h6, h7⟩ := h5 j st hj
          exact ⟨by rw [World.cell?_setCell_other _ _ _ _ (fun e => hne (by have := congrArg Addr.block e; simpa using this.symm))]; exact h6, by rw [World.cell?_setCell_other _ _ _ _ (fun e => hne (by have := congrArg Addr.block e; simpa using this.symm))]; exact h7⟩)
      have HB4 := hid (HB.out.setCell (p := ⟨w.heap.size, 0, none⟩) (Nat.le_refl _) (.slice (some ⟨w.heap.size + 1, 0, none⟩) 1 1))
      have HCC : Hid ((W0.setCell ⟨w.heap.size, 0, none⟩ (.slice (some ⟨w.heap.size + 1, 0, none⟩) 1 1)).cell? ⟨w.heap.size, 0, none⟩ = some (.slice (some ⟨w.heap.size + 1, 0, none⟩) 1 1)) := hid (World.cell?_setCell_same _ _ _ r0)
      clear hw
      go_wp2_with fail
      refine ret_ways Try.results112 ?_ ?_ HCC.out ?_
      · rfl
      · rfl
      · exact ⟨_, rfl, HW.out, HB4.out⟩

end Go.Proofs.Ytjagijohfkffiaa
