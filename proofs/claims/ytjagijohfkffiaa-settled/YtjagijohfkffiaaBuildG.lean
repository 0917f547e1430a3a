/- []Group{g}: a slice of one group is built. -/
import Derived.Test.YtjagijohfkffiaaGrp
namespace Go.Proofs.Ytjagijohfkffiaa
open Go.RowKit
set_option linter.unusedVariables false

theorem fold_size (off : Nat) : ∀ (xs : List Value) (k : Nat) (base : Array Value), ((xs.zipIdx k).foldl (fun cs p => cs.setIfInBounds (off + p.2) p.1) base).size = base.size
  | [], _, _ => rfl
  | x :: xs, k, base => by
    rw [List.zipIdx_cons, List.foldl_cons, fold_size off xs (k + 1)]
    simp
theorem fold_get : ∀ (xs : List Value) (k : Nat) (base : Array Value) (i : Nat), i < base.size →
    ((xs.zipIdx k).foldl (fun cs p => cs.setIfInBounds (0 + p.2) p.1) base)[i]? = if k ≤ i ∧ i < k + xs.length then xs[i - k]? else base[i]?
  | [], k, base, i, _ => by simp; intro h1 h2; omega
  | x :: xs, k, base, i, hi => by
    rw [List.zipIdx_cons, List.foldl_cons, fold_get xs (k + 1) _ i (by simpa using hi)]
    by_cases e : i = k
    · subst e
      rw [if_neg (by omega), if_pos (by simp)]
      simp [hi]
    · by_cases h : k + 1 ≤ i ∧ i < k + 1 + xs.length
      · rw [if_pos h, if_pos (by simp; omega), show i - k = (i - (k + 1)) + 1 by omega]
        simp
      · rw [if_neg h, if_neg (by simp; omega)]
        simp [Array.getElem?_setIfInBounds]
        intro h2; omega

/-- One part over all cells. -/
theorem fill_one (c base : Array Value) (n : Nat) (hc : c.size = n) (hb : base.size = n) : Instr.fill (fun i => some (i * n, n)) base [(0, .agg c)] = some c := by
  have h1 : (Value.agg c).cells = c := rfl
  simp only [Instr.fill, h1, Nat.zero_mul, Nat.zero_add, hc, hb, ne_eq, not_true, decide_false, Bool.false_or, gt_iff_lt, Nat.lt_irrefl, decide_false, Bool.false_eq_true, if_false]
  congr 1
  apply Array.ext_getElem?
  intro i
  rw [← Array.foldl_toList, Array.toList_zipIdx]
  by_cases hi : i < n
  · have := fold_get c.toList 0 base i (by omega)
    simp only [Nat.zero_add] at this
    rw [this, if_pos (by simp; omega)]
    simp
  · have hs := fold_size 0 c.toList 0 base
    simp only [Nat.zero_add] at hs
    rw [Array.getElem?_eq_none (by rw [hs]; omega), Array.getElem?_eq_none (by omega)]

theorem run_buildSlice_grp (g : Nat → Bool) (w : World) : (Instr.buildSlice 79 1 #[(0, .agg (gv g).toArray)]).run Try.prog w = .ok (.slice (some ⟨w.heap.size, 0, none⟩) 1 1) (w.alloc (.cells (gv g).toArray 81)) := by
  have hf := fill_one (gv g).toArray ((Array.range 256).map fun x => (Value.agg Try.zeroCells81).cells[x % (Value.agg Try.zeroCells81).cells.size]!) 256 (by simp [gv_len]) (by simp)
  simp [Instr.buildSlice, Try.runUnderlying79, Try.sizeOf81, Try.zeroValue81, newRow]
  rw [hf]
  simp

theorem wpList_build_grp {ops : Array Oper} {rest : List Oper} {op : Oper} {a : Act} {w : World} {Q : Exit → Act → World → Prop} (hgd : op.guard = none) (x : Operand) (ho : op.op = .buildSlice 79 1 #[(0, x)])
    (g : Nat → Bool) (hx : a.eval x = .agg (gv g).toArray)
    (h : wpList Try.prog ops Q rest (a.put op.dst (.slice (some ⟨w.heap.size, 0, none⟩) 1 1)) (w.alloc (.cells (gv g).toArray 81))) : wpList Try.prog ops Q (op :: rest) a w :=
  wpList_plain hgd fun _ hK => by
    unfold Oper.wp execOp
    have := run_buildSlice_grp g w
    simp only [ho, hx, List.map_toArray, List.map_cons, List.map_nil, Sem.run_bind, this, Result.andThen_ok, Sem.run_pure]
    exact hK _ _ h

end Go.Proofs.Ytjagijohfkffiaa
