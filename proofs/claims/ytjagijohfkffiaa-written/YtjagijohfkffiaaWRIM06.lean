import Derived.Test.YtjagijohfkffiaaWRIM05

/- A struct of three cells. -/
namespace Go.Proofs.Ytjagijohfkffiaa
open Go.RowKit
set_option linter.unusedVariables false

/-- A struct of three one-cell fields, in a block of its own. -/
structure Three (w : World) (b : Nat) (x y z : Value) : Prop where
  c0 : w.cell? ⟨b, 0, none⟩ = some x
  c1 : w.cell? ⟨b, 1, none⟩ = some y
  c2 : w.cell? ⟨b, 2, none⟩ = some z
  fz : ∀ o, o < 3 → w.frozen? ⟨b, o, none⟩ = false

theorem Three.lt {w : World} {b : Nat} {x y z : Value} (h : Three w b x y z) : b < w.heap.size := World.block_lt_of_cell? w ⟨b, 0, none⟩ h.c0
theorem three_new (w : World) (x y z : Value) (t : TypeId) : Three (w.alloc (.cells #[x, y, z] t)) w.heap.size x y z := ⟨by simp, by simp, by simp, fun o ho => by simp⟩
theorem Three.below {B : Nat} {w w' : World} {b : Nat} {x y z : Value} (h : Three w b x y z) (hb : Below B w w') (hlt : b < B) : Three w' b x y z :=
  ⟨(hb.cell (p := ⟨b, 0, none⟩) hlt).trans h.c0, (hb.cell (p := ⟨b, 1, none⟩) hlt).trans h.c1, (hb.cell (p := ⟨b, 2, none⟩) hlt).trans h.c2, fun o ho => (hb.frozen (p := ⟨b, o, none⟩) hlt).trans (h.fz o ho)⟩
theorem Three.set1 {w : World} {b : Nat} {x y z : Value} (h : Three w b x y z) (v : Value) : Three (w.setCell ⟨b, 1, none⟩ v) b x v z :=
  ⟨by rw [World.cell?_setCell_other _ _ _ _ (by simp)]; exact h.c0, World.cell?_setCell_same _ _ _ h.c1, by rw [World.cell?_setCell_other _ _ _ _ (by simp)]; exact h.c2, fun o ho => by rw [World.frozen?_setCell]; exact h.fz o ho⟩
theorem Three.set2 {w : World} {b : Nat} {x y z : Value} (h : Three w b x y z) (v : Value) : Three (w.setCell ⟨b, 2, none⟩ v) b x y v :=
  ⟨by rw [World.cell?_setCell_other _ _ _ _ (by simp)]; exact h.c0, by rw [World.cell?_setCell_other _ _ _ _ (by simp)]; exact h.c1, World.cell?_setCell_same _ _ _ h.c2, fun o ho => by rw [World.frozen?_setCell]; exact h.fz o ho⟩
theorem Three.set0 {w : World} {b : Nat} {x y z : Value} (h : Three w b x y z) (v : Value) : Three (w.setCell ⟨b, 0, none⟩ v) b v y z :=
  ⟨World.cell?_setCell_same _ _ _ h.c0, by rw [World.cell?_setCell_other _ _ _ _ (by simp)]; exact h.c1, by rw [World.cell?_setCell_other _ _ _ _ (by simp)]; exact h.c2, fun o ho => by rw [World.frozen?_setCell]; exact h.fz o ho⟩
theorem Three.other {w : World} {b k o : Nat} {x y z : Value} (h : Three w b x y z) (hk : k ≠ b) (v : Value) : Three (w.setCell ⟨k, o, none⟩ v) b x y z :=
  ⟨by rw [World.cell?_setCell_other _ _ _ _ (fun e => hk (congrArg Addr.block e))]; exact h.c0, by rw [World.cell?_setCell_other _ _ _ _ (fun e => hk (congrArg Addr.block e))]; exact h.c1, by rw [World.cell?_setCell_other _ _ _ _ (fun e => hk (congrArg Addr.block e))]; exact h.c2, fun q hq => by rw [World.frozen?_setCell]; exact h.fz q hq⟩

end Go.Proofs.Ytjagijohfkffiaa
