/- What Judge answers. -/
import Derived.Test.YtjagijohfkffiaaHolds
import Derived.Test.YtjagijohfkffiaaChain
namespace Go.Proofs.Ytjagijohfkffiaa
open Go.RowKit
set_option linter.unusedVariables false

def judgeErr (s : ByteArray) (z : List Int) : Nat := if (parseOf s).1 = 0 then (if 40 < z.length then 5 else if allL z = true then 0 else 6) else (parseOf s).1

theorem nat_lt {z : List Int} (h : allL z = true) : ∀ x ∈ natOf z, x < 8 := fun x hx => by
  obtain ⟨y, hy, rfl⟩ := List.mem_map.1 hx
  have hl := isL_iff.1 (List.all_eq_true.1 h _ hy)
  omega

def RJudged (s : ByteArray) (z1 : List Int) (w : World) (e : Ending) (w' : World) : Prop :=
  ∃ v : Nat, e = .returned (.tuple #[.int .i64 v, .int .i64 (judgeErr s z1)]) ∧ (judgeErr s z1 = 0 → Verdict (parseOf s).2 (natOf z1) v) ∧ (judgeErr s z1 ≠ 0 → v = 0) ∧ Below w.heap.size w w'

end Go.Proofs.Ytjagijohfkffiaa
