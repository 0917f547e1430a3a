/- Laws on arrays by value: a cell of an array; an array out of and into memory. -/
import Derived.Test.YtjagijohfkffiaaReader
import Derived.Deep.WholeRow
import Derived.Laws.CopyRow
namespace Go.Proofs.Ytjagijohfkffiaa
open Go.RowKit
set_option linter.unusedVariables false

theorem run_sizeOf {P : Program} {t : TypeId} {n : Nat} (h : (P.info? t).map (·.size) = some n) (w : World) : (sizeOf t).run P w = .ok n w := by
  cases hq : P.info? t with
  | none => simp [hq] at h
  | some i => simp [hq] at h; simp [sizeOf, typeInfo, hq, h]

theorem run_isAgg_int {P : Program} {t : TypeId} {k : IntKind} (h : P.underlying t = some (.int k)) (w : World) : (isAgg t).run P w = .ok false w := by
  simp [isAgg, run_underlying h]
theorem run_isAgg_bool {P : Program} {t : TypeId} (h : P.underlying t = some .bool) (w : World) : (isAgg t).run P w = .ok false w := by
  simp [isAgg, run_underlying h]
theorem run_isAgg_array {P : Program} {t e : TypeId} {n : Nat} (h : P.underlying t = some (.array n e)) (w : World) : (isAgg t).run P w = .ok true w := by
  simp [isAgg, run_underlying h]

/-- x[j], x an array of one-cell elements that was taken by value. -/
theorem run_index_one {P : Program} {t e : TypeId} {len : Nat} {X : Array Value} {j : Nat} {v : Value} (w : World) (ht : P.underlying t = some (.array len e)) (he : ∀ w, (isAgg e).run P w = .ok false w) (hs : (P.info? e).map (·.size) = some 1)
    (hj : j < len) (hX : X[j]? = some v) : (Instr.index t (.agg X) (.int .i64 (j : Nat))).run P w = .ok v w := by
  have h0 : (0 : Int) ≤ (j : Int) ∧ (j : Int) < (len : Int) := by omega
  simp only [Instr.index, asIntOf, Sem.run_bind, Sem.run_pure, Result.andThen, run_underlying ht, if_pos h0, run_sizeOf hs, part, he]
  simp [hX]

end Go.Proofs.Ytjagijohfkffiaa
