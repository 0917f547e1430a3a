/-
  No cell of these rows narrows 'for every input' (looked for: loops, veiled, ifaces, maps, wideKeys, modest, calm, conditions, laid).
  DERIVED. THE GIVEN ROWS OF THIS SEAT. 12 by the template 'for every input the law returns true; each argument reads behind the call as it read before'; 0 by the template 'total and deterministic' (their statements: YtjagijohfkffiaaTotals.lean).
  GIVEN WITH THE SEED: the statements are not yours to turn. If you find one false, say at which input.
  Laid BY PROGRAM, IN A SANDBOX (cutbox-rows.mjs): the forced cells as the released guide's own fill.sh prints them over the translation bd7b891b1736cba0… (all of the seat's roots in one cut). By AI agents, Wed Nov 11 2026. No macro, syntax, notation, axiom, sorry.
-/
import Derived.Test.YtjagijohfkffiaaChecked
import GoSem.Claim
import GoSem.ClaimJoined
import GoSem.ClaimMapViews
import Derived.JoinedTies
import Derived.KernelRfl
namespace Go.Proofs.Ytjagijohfkffiaa
/- THE CELL 'sum', in the pinned program and in every row, IS THE sha256 OF THE DUMP (.gsa) THAT YtjagijohfkffiaaProg.lean LOADS. Nothing in Lean hashes anything: it is a label: what it is worth is what the hold of that sum in a sandbox is worth. -/
noncomputable def Try.pinned : Pinned := { name := "ytjagijohfkffiaa", sum := "bd7b891b1736cba0bd12f5749126556cdd448e9cec9b66795db7e39a77808967", checked := Try.checked }
namespace Rows
def none {H : Type} : Left H := { results := [], args := [] }

/-- 'verdictlaw.Sizes': WHATEVER THE INPUT: true; the input reads as it did. -/
def sizesSpec : ChangeSpec := { name := "sizes", fn := fun _ => fun
  | [d] => { results := [.lit (.bool true)], args := [d] }
  | _ => none }
def sizesRow : OpenClaim := { program := "ytjagijohfkffiaa", sum := "bd7b891b1736cba0bd12f5749126556cdd448e9cec9b66795db7e39a77808967", func := "verdict/verdictlaw.Sizes", spec := "sizes", recurses := true, apart := false }
def SizesSaid : Prop := sizesRow.holds Try.pinned (OpenSpec.ofChange sizesSpec)

/-- ITS FALSE NEIGHBOUR: 'it returns false'. Refute it at one input. -/
def sizesWrong : ChangeSpec := { name := "sizes", fn := fun _ => fun
  | [d] => { results := [.lit (.bool false)], args := [d] }
  | _ => none }
def SizesWrongFalsely : Prop := sizesRow.holds Try.pinned (OpenSpec.ofChange sizesWrong)

/-- 'verdictlaw.Holdings': WHATEVER THE INPUT: true; the input reads as it did. -/
def holdingsSpec : ChangeSpec := { name := "holdings", fn := fun _ => fun
  | [d1, d2, d3] => { results := [.lit (.bool true)], args := [d1, d2, d3] }
  | _ => none }
def holdingsRow : OpenClaim := { program := "ytjagijohfkffiaa", sum := "bd7b891b1736cba0bd12f5749126556cdd448e9cec9b66795db7e39a77808967", func := "verdict/verdictlaw.Holdings", spec := "holdings", recurses := true, apart := false }
def HoldingsSaid : Prop := holdingsRow.holds Try.pinned (OpenSpec.ofChange holdingsSpec)

/-- ITS FALSE NEIGHBOUR: 'it returns false'. Refute it at one input. -/
def holdingsWrong : ChangeSpec := { name := "holdings", fn := fun _ => fun
  | [d1, d2, d3] => { results := [.lit (.bool false)], args := [d1, d2, d3] }
  | _ => none }
def HoldingsWrongFalsely : Prop := holdingsRow.holds Try.pinned (OpenSpec.ofChange holdingsWrong)

/-- 'verdictkeep.Meant': WHATEVER THE INPUT: true; the input reads as it did. -/
def meantSpec : ChangeSpec := { name := "meant", fn := fun _ => fun
  | [d1, d2, d3, d4, d5] => { results := [.lit (.bool true)], args := [d1, d2, d3, d4, d5] }
  | _ => none }
def meantRow : OpenClaim := { program := "ytjagijohfkffiaa", sum := "bd7b891b1736cba0bd12f5749126556cdd448e9cec9b66795db7e39a77808967", func := "verdict/verdictkeep.Meant", spec := "meant", recurses := true, apart := false }
def MeantSaid : Prop := meantRow.holds Try.pinned (OpenSpec.ofChange meantSpec)

/-- ITS FALSE NEIGHBOUR: 'it returns false'. Refute it at one input. -/
def meantWrong : ChangeSpec := { name := "meant", fn := fun _ => fun
  | [d1, d2, d3, d4, d5] => { results := [.lit (.bool false)], args := [d1, d2, d3, d4, d5] }
  | _ => none }
def MeantWrongFalsely : Prop := meantRow.holds Try.pinned (OpenSpec.ofChange meantWrong)

/-- 'verdictkeep.Unrolled': WHATEVER THE INPUT: true; the input reads as it did. -/
def unrolledSpec : ChangeSpec := { name := "unrolled", fn := fun _ => fun
  | [d1, d2, d3] => { results := [.lit (.bool true)], args := [d1, d2, d3] }
  | _ => none }
def unrolledRow : OpenClaim := { program := "ytjagijohfkffiaa", sum := "bd7b891b1736cba0bd12f5749126556cdd448e9cec9b66795db7e39a77808967", func := "verdict/verdictkeep.Unrolled", spec := "unrolled", recurses := true, apart := false }
def UnrolledSaid : Prop := unrolledRow.holds Try.pinned (OpenSpec.ofChange unrolledSpec)

/-- ITS FALSE NEIGHBOUR: 'it returns false'. Refute it at one input. -/
def unrolledWrong : ChangeSpec := { name := "unrolled", fn := fun _ => fun
  | [d1, d2, d3] => { results := [.lit (.bool false)], args := [d1, d2, d3] }
  | _ => none }
def UnrolledWrongFalsely : Prop := unrolledRow.holds Try.pinned (OpenSpec.ofChange unrolledWrong)

/-- 'verdictlaw.Judges': WHATEVER THE INPUT: true; the input reads as it did. -/
def judgesSpec : ChangeSpec := { name := "judges", fn := fun _ => fun
  | [d1, d2] => { results := [.lit (.bool true)], args := [d1, d2] }
  | _ => none }
def judgesRow : OpenClaim := { program := "ytjagijohfkffiaa", sum := "bd7b891b1736cba0bd12f5749126556cdd448e9cec9b66795db7e39a77808967", func := "verdict/verdictlaw.Judges", spec := "judges", recurses := true, apart := false }
def JudgesSaid : Prop := judgesRow.holds Try.pinned (OpenSpec.ofChange judgesSpec)

/-- ITS FALSE NEIGHBOUR: 'it returns false'. Refute it at one input. -/
def judgesWrong : ChangeSpec := { name := "judges", fn := fun _ => fun
  | [d1, d2] => { results := [.lit (.bool false)], args := [d1, d2] }
  | _ => none }
def JudgesWrongFalsely : Prop := judgesRow.holds Try.pinned (OpenSpec.ofChange judgesWrong)

/-- 'verdictlaw.Watches': WHATEVER THE INPUT: true; the input reads as it did. -/
def watchesSpec : ChangeSpec := { name := "watches", fn := fun _ => fun
  | [d] => { results := [.lit (.bool true)], args := [d] }
  | _ => none }
def watchesRow : OpenClaim := { program := "ytjagijohfkffiaa", sum := "bd7b891b1736cba0bd12f5749126556cdd448e9cec9b66795db7e39a77808967", func := "verdict/verdictlaw.Watches", spec := "watches", recurses := true, apart := false }
def WatchesSaid : Prop := watchesRow.holds Try.pinned (OpenSpec.ofChange watchesSpec)

/-- ITS FALSE NEIGHBOUR: 'it returns false'. Refute it at one input. -/
def watchesWrong : ChangeSpec := { name := "watches", fn := fun _ => fun
  | [d] => { results := [.lit (.bool false)], args := [d] }
  | _ => none }
def WatchesWrongFalsely : Prop := watchesRow.holds Try.pinned (OpenSpec.ofChange watchesWrong)

/-- 'verdictlaw.Writes': WHATEVER THE INPUT: true; the input reads as it did. -/
def writesSpec : ChangeSpec := { name := "writes", fn := fun _ => fun
  | [d] => { results := [.lit (.bool true)], args := [d] }
  | _ => none }
def writesRow : OpenClaim := { program := "ytjagijohfkffiaa", sum := "bd7b891b1736cba0bd12f5749126556cdd448e9cec9b66795db7e39a77808967", func := "verdict/verdictlaw.Writes", spec := "writes", apart := false }
def WritesSaid : Prop := writesRow.holds Try.pinned (OpenSpec.ofChange writesSpec)

/-- ITS FALSE NEIGHBOUR: 'it returns false'. Refute it at one input. -/
def writesWrong : ChangeSpec := { name := "writes", fn := fun _ => fun
  | [d] => { results := [.lit (.bool false)], args := [d] }
  | _ => none }
def WritesWrongFalsely : Prop := writesRow.holds Try.pinned (OpenSpec.ofChange writesWrong)

/-- 'verdictlaw.Reads': WHATEVER THE INPUT: true; the input reads as it did. -/
def readsSpec : ChangeSpec := { name := "reads", fn := fun _ => fun
  | [d1, d2] => { results := [.lit (.bool true)], args := [d1, d2] }
  | _ => none }
def readsRow : OpenClaim := { program := "ytjagijohfkffiaa", sum := "bd7b891b1736cba0bd12f5749126556cdd448e9cec9b66795db7e39a77808967", func := "verdict/verdictlaw.Reads", spec := "reads", apart := false }
def ReadsSaid : Prop := readsRow.holds Try.pinned (OpenSpec.ofChange readsSpec)

/-- ITS FALSE NEIGHBOUR: 'it returns false'. Refute it at one input. -/
def readsWrong : ChangeSpec := { name := "reads", fn := fun _ => fun
  | [d1, d2] => { results := [.lit (.bool false)], args := [d1, d2] }
  | _ => none }
def ReadsWrongFalsely : Prop := readsRow.holds Try.pinned (OpenSpec.ofChange readsWrong)

/-- 'verdictkeep.Settled': WHATEVER THE INPUT: true; the input reads as it did. -/
def settledSpec : ChangeSpec := { name := "settled", fn := fun _ => fun
  | [d1, d2, d3, d4] => { results := [.lit (.bool true)], args := [d1, d2, d3, d4] }
  | _ => none }
def settledRow : OpenClaim := { program := "ytjagijohfkffiaa", sum := "bd7b891b1736cba0bd12f5749126556cdd448e9cec9b66795db7e39a77808967", func := "verdict/verdictkeep.Settled", spec := "settled", recurses := true, apart := false }
def SettledSaid : Prop := settledRow.holds Try.pinned (OpenSpec.ofChange settledSpec)

/-- ITS FALSE NEIGHBOUR: 'it returns false'. Refute it at one input. -/
def settledWrong : ChangeSpec := { name := "settled", fn := fun _ => fun
  | [d1, d2, d3, d4] => { results := [.lit (.bool false)], args := [d1, d2, d3, d4] }
  | _ => none }
def SettledWrongFalsely : Prop := settledRow.holds Try.pinned (OpenSpec.ofChange settledWrong)

/-- 'verdictkeep.Least': WHATEVER THE INPUT: true; the input reads as it did. -/
def leastSpec : ChangeSpec := { name := "least", fn := fun _ => fun
  | [d1, d2] => { results := [.lit (.bool true)], args := [d1, d2] }
  | _ => none }
def leastRow : OpenClaim := { program := "ytjagijohfkffiaa", sum := "bd7b891b1736cba0bd12f5749126556cdd448e9cec9b66795db7e39a77808967", func := "verdict/verdictkeep.Least", spec := "least", recurses := true, apart := false }
def LeastSaid : Prop := leastRow.holds Try.pinned (OpenSpec.ofChange leastSpec)

/-- ITS FALSE NEIGHBOUR: 'it returns false'. Refute it at one input. -/
def leastWrong : ChangeSpec := { name := "least", fn := fun _ => fun
  | [d1, d2] => { results := [.lit (.bool false)], args := [d1, d2] }
  | _ => none }
def LeastWrongFalsely : Prop := leastRow.holds Try.pinned (OpenSpec.ofChange leastWrong)

/-- 'verdictkeep.Written': WHATEVER THE INPUT: true; the input reads as it did. -/
def writtenSpec : ChangeSpec := { name := "written", fn := fun _ => fun
  | [d1, d2, d3] => { results := [.lit (.bool true)], args := [d1, d2, d3] }
  | _ => none }
def writtenRow : OpenClaim := { program := "ytjagijohfkffiaa", sum := "bd7b891b1736cba0bd12f5749126556cdd448e9cec9b66795db7e39a77808967", func := "verdict/verdictkeep.Written", spec := "written", recurses := true, apart := false }
def WrittenSaid : Prop := writtenRow.holds Try.pinned (OpenSpec.ofChange writtenSpec)

/-- ITS FALSE NEIGHBOUR: 'it returns false'. Refute it at one input. -/
def writtenWrong : ChangeSpec := { name := "written", fn := fun _ => fun
  | [d1, d2, d3] => { results := [.lit (.bool false)], args := [d1, d2, d3] }
  | _ => none }
def WrittenWrongFalsely : Prop := writtenRow.holds Try.pinned (OpenSpec.ofChange writtenWrong)

/-- 'verdictlaw.Classes': WHATEVER THE INPUT: true; the input reads as it did. -/
def classesSpec : ChangeSpec := { name := "classes", fn := fun _ => fun
  | [d] => { results := [.lit (.bool true)], args := [d] }
  | _ => none }
def classesRow : OpenClaim := { program := "ytjagijohfkffiaa", sum := "bd7b891b1736cba0bd12f5749126556cdd448e9cec9b66795db7e39a77808967", func := "verdict/verdictlaw.Classes", spec := "classes", recurses := true, apart := false }
def ClassesSaid : Prop := classesRow.holds Try.pinned (OpenSpec.ofChange classesSpec)

/-- ITS FALSE NEIGHBOUR: 'it returns false'. Refute it at one input. -/
def classesWrong : ChangeSpec := { name := "classes", fn := fun _ => fun
  | [d] => { results := [.lit (.bool false)], args := [d] }
  | _ => none }
def ClassesWrongFalsely : Prop := classesRow.holds Try.pinned (OpenSpec.ofChange classesWrong)

/- THE SECOND FORM. 'bulk': how many values and letters a reading holds, each counted each time it is reached (what is shared counts as often as it is met; a slice's spare places count too). A statement '..UptoSaid' is the law's where the arguments, and the package variables that the reading takes, are together of bulk at most 1048576: NARROWER than '..Said'. Prove '..Said' where nothing that the law and all that it calls make is longer than what came in: it says more and counts as full. Else prove '..UptoSaid'. A law counts once. -/
mutual
def uptoBulk {H : Type} : DataW H → Nat
  | .lit (.string bytes) => bytes.length + 1
  | .lit _ => 1
  | .nil => 1
  | .ptr d => uptoBulk d + 1
  | .slice elems spare => uptoBulkAll elems + uptoBulkAll spare + 1
  | .agg parts => uptoBulkAll parts + 1
  | .iface _ d => uptoBulk d + 1
  | .map entries => uptoBulkEntries entries + 1
  | .held _ => 1
def uptoBulkAll {H : Type} : List (DataW H) → Nat
  | [] => 0
  | d :: r => uptoBulk d + uptoBulkAll r
def uptoBulkEntries {H : Type} : List (Lit × DataW H) → Nat
  | [] => 0
  | x :: r => uptoBulkEntry x + uptoBulkEntries r
def uptoBulkEntry {H : Type} : Lit × DataW H → Nat
  | (.string bytes, d) => bytes.length + uptoBulk d + 1
  | (_, d) => uptoBulk d + 1
 end
def uptoSmall : (H : Type) → List (DataW H) → Bool := fun _ ds => decide (uptoBulkAll ds ≤ 1048576)
def OpenSpec.upto (s : _root_.Go.ChangeSpec) : _root_.Go.OpenSpec := { _root_.Go.OpenSpec.ofChange s with cond := some uptoSmall }

/-- 'verdictlaw.Sizes', WHERE WHAT IT READS IS OF BULK AT MOST 1048576: true; the input reads as it did. -/
def sizesUptoRow : OpenClaim := { program := "ytjagijohfkffiaa", sum := "bd7b891b1736cba0bd12f5749126556cdd448e9cec9b66795db7e39a77808967", func := "verdict/verdictlaw.Sizes", spec := "sizes", recurses := true, apart := false, narrowed := true }
def SizesUptoSaid : Prop := sizesUptoRow.holds Try.pinned (OpenSpec.upto sizesSpec)

/-- 'verdictlaw.Holdings', WHERE WHAT IT READS IS OF BULK AT MOST 1048576: true; the input reads as it did. -/
def holdingsUptoRow : OpenClaim := { program := "ytjagijohfkffiaa", sum := "bd7b891b1736cba0bd12f5749126556cdd448e9cec9b66795db7e39a77808967", func := "verdict/verdictlaw.Holdings", spec := "holdings", recurses := true, apart := false, narrowed := true }
def HoldingsUptoSaid : Prop := holdingsUptoRow.holds Try.pinned (OpenSpec.upto holdingsSpec)

/-- 'verdictkeep.Meant', WHERE WHAT IT READS IS OF BULK AT MOST 1048576: true; the input reads as it did. -/
def meantUptoRow : OpenClaim := { program := "ytjagijohfkffiaa", sum := "bd7b891b1736cba0bd12f5749126556cdd448e9cec9b66795db7e39a77808967", func := "verdict/verdictkeep.Meant", spec := "meant", recurses := true, apart := false, narrowed := true }
def MeantUptoSaid : Prop := meantUptoRow.holds Try.pinned (OpenSpec.upto meantSpec)

/-- 'verdictkeep.Unrolled', WHERE WHAT IT READS IS OF BULK AT MOST 1048576: true; the input reads as it did. -/
def unrolledUptoRow : OpenClaim := { program := "ytjagijohfkffiaa", sum := "bd7b891b1736cba0bd12f5749126556cdd448e9cec9b66795db7e39a77808967", func := "verdict/verdictkeep.Unrolled", spec := "unrolled", recurses := true, apart := false, narrowed := true }
def UnrolledUptoSaid : Prop := unrolledUptoRow.holds Try.pinned (OpenSpec.upto unrolledSpec)

/-- 'verdictlaw.Judges', WHERE WHAT IT READS IS OF BULK AT MOST 1048576: true; the input reads as it did. -/
def judgesUptoRow : OpenClaim := { program := "ytjagijohfkffiaa", sum := "bd7b891b1736cba0bd12f5749126556cdd448e9cec9b66795db7e39a77808967", func := "verdict/verdictlaw.Judges", spec := "judges", recurses := true, apart := false, narrowed := true }
def JudgesUptoSaid : Prop := judgesUptoRow.holds Try.pinned (OpenSpec.upto judgesSpec)

/-- 'verdictlaw.Watches', WHERE WHAT IT READS IS OF BULK AT MOST 1048576: true; the input reads as it did. -/
def watchesUptoRow : OpenClaim := { program := "ytjagijohfkffiaa", sum := "bd7b891b1736cba0bd12f5749126556cdd448e9cec9b66795db7e39a77808967", func := "verdict/verdictlaw.Watches", spec := "watches", recurses := true, apart := false, narrowed := true }
def WatchesUptoSaid : Prop := watchesUptoRow.holds Try.pinned (OpenSpec.upto watchesSpec)

/-- 'verdictlaw.Writes', WHERE WHAT IT READS IS OF BULK AT MOST 1048576: true; the input reads as it did. -/
def writesUptoRow : OpenClaim := { program := "ytjagijohfkffiaa", sum := "bd7b891b1736cba0bd12f5749126556cdd448e9cec9b66795db7e39a77808967", func := "verdict/verdictlaw.Writes", spec := "writes", apart := false, narrowed := true }
def WritesUptoSaid : Prop := writesUptoRow.holds Try.pinned (OpenSpec.upto writesSpec)

/-- 'verdictlaw.Reads', WHERE WHAT IT READS IS OF BULK AT MOST 1048576: true; the input reads as it did. -/
def readsUptoRow : OpenClaim := { program := "ytjagijohfkffiaa", sum := "bd7b891b1736cba0bd12f5749126556cdd448e9cec9b66795db7e39a77808967", func := "verdict/verdictlaw.Reads", spec := "reads", apart := false, narrowed := true }
def ReadsUptoSaid : Prop := readsUptoRow.holds Try.pinned (OpenSpec.upto readsSpec)

/-- 'verdictkeep.Settled', WHERE WHAT IT READS IS OF BULK AT MOST 1048576: true; the input reads as it did. -/
def settledUptoRow : OpenClaim := { program := "ytjagijohfkffiaa", sum := "bd7b891b1736cba0bd12f5749126556cdd448e9cec9b66795db7e39a77808967", func := "verdict/verdictkeep.Settled", spec := "settled", recurses := true, apart := false, narrowed := true }
def SettledUptoSaid : Prop := settledUptoRow.holds Try.pinned (OpenSpec.upto settledSpec)

/-- 'verdictkeep.Least', WHERE WHAT IT READS IS OF BULK AT MOST 1048576: true; the input reads as it did. -/
def leastUptoRow : OpenClaim := { program := "ytjagijohfkffiaa", sum := "bd7b891b1736cba0bd12f5749126556cdd448e9cec9b66795db7e39a77808967", func := "verdict/verdictkeep.Least", spec := "least", recurses := true, apart := false, narrowed := true }
def LeastUptoSaid : Prop := leastUptoRow.holds Try.pinned (OpenSpec.upto leastSpec)

/-- 'verdictkeep.Written', WHERE WHAT IT READS IS OF BULK AT MOST 1048576: true; the input reads as it did. -/
def writtenUptoRow : OpenClaim := { program := "ytjagijohfkffiaa", sum := "bd7b891b1736cba0bd12f5749126556cdd448e9cec9b66795db7e39a77808967", func := "verdict/verdictkeep.Written", spec := "written", recurses := true, apart := false, narrowed := true }
def WrittenUptoSaid : Prop := writtenUptoRow.holds Try.pinned (OpenSpec.upto writtenSpec)

/-- 'verdictlaw.Classes', WHERE WHAT IT READS IS OF BULK AT MOST 1048576: true; the input reads as it did. -/
def classesUptoRow : OpenClaim := { program := "ytjagijohfkffiaa", sum := "bd7b891b1736cba0bd12f5749126556cdd448e9cec9b66795db7e39a77808967", func := "verdict/verdictlaw.Classes", spec := "classes", recurses := true, apart := false, narrowed := true }
def ClassesUptoSaid : Prop := classesUptoRow.holds Try.pinned (OpenSpec.upto classesSpec)

end Rows
end Go.Proofs.Ytjagijohfkffiaa
