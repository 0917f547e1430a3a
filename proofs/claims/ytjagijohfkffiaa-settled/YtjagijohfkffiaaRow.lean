/- The walk of the reference's row. -/
import Derived.Test.YtjagijohfkffiaaAlong
import Derived.Test.YtjagijohfkffiaaRefMem
namespace Go.Proofs.Ytjagijohfkffiaa
open Go.RowKit
set_option linter.unusedVariables false

theorem Try.infoBool : (Try.prog.info? 4).map (fun i => (i.zero, i.size, i.bytes)) = some (some (.bool false), 1, 1) := by kernel_rfl

/-- The parts of the nodes ns lie in the blocks bs. -/
def Parts (w : World) (ns : List Nd) (bs : List Nat) : Prop := ∀ (i : Nat) (nd : Nd), ns[i]? = some nd → ∃ b, bs[i]? = some b ∧ w.heap[b]? = some (partObj bs i nd)

theorem Parts.below {w w' : World} {ns : List Nd} {bs : List Nat} (h : Parts w ns bs) (hb : Below w.heap.size w w') : Parts w' ns bs := fun i nd hn => by
  obtain ⟨b, e, hh⟩ := h i nd hn
  exact ⟨b, e, by rw [hb.block b (heap_lt hh)]; exact hh⟩

/-- The letters of the word in memory. -/
structure Wd (w : World) (g n cap : Nat) (xs : List Nat) : Prop where
  lt : g < w.heap.size
  cap : n ≤ cap
  cell : ∀ i, i < n → w.cell? ⟨g, i, none⟩ = some (.int .i64 (ltOf xs i : Nat))

theorem Wd.below {w w' : World} {g n cap : Nat} {xs : List Nat} (h : Wd w g n cap xs) (hb : Below w.heap.size w w') : Wd w' g n cap xs :=
  ⟨Nat.lt_of_lt_of_le h.lt hb.size, h.cap, fun i hi => by rw [hb.cell (p := ⟨g, i, none⟩) h.lt]; exact h.cell i hi⟩

/-- What has been written of a row, up to j. -/
def outTo (f : Nat → Bool) (n j : Nat) : List Value := (List.range n).map fun i => .bool (if i < j then f i else false)
theorem outTo_zero (f : Nat → Bool) (n : Nat) : outTo f n 0 = List.replicate n (.bool false) := by
  unfold outTo
  apply List.ext_getElem
  · simp
  · intro i h1 h2; simp
theorem outTo_set (f : Nat → Bool) (n j : Nat) : (outTo f n j).set j (.bool (f j)) = outTo f n (j + 1) := by
  unfold outTo
  apply List.ext_getElem
  · simp
  · intro i h1 h2
    simp at h1
    rw [List.getElem_set]
    by_cases e : j = i
    · subst e; simp
    · simp only [if_neg e, List.getElem_map, List.getElem_range]
      by_cases h : i < j
      · rw [if_pos h, if_pos (by omega)]
      · rw [if_neg h, if_neg (by omega)]
theorem outTo_get (f : Nat → Bool) (n i : Nat) (hi : i < n) : (outTo f n n)[i]? = some (.bool (f i)) := by
  unfold outTo
  simp [hi]

theorem grown_trans {a b c : World} {row : Option Nat} (h : a.grownBy b row) (k : b.grownBy c row) : a.grownBy c row :=
  ⟨k.os.trans h.os, k.tape.trans h.tape, k.output.trans h.output, Nat.le_trans h.size k.size, fun q hq hr => (k.block q (Nat.lt_of_lt_of_le hq h.size) hr).trans (h.block q hq hr)⟩
theorem grown_drewN {a b : World} {row : Option Nat} (h : a.grownBy b row) (n : Nat) : a.grownBy (b.drewN n) row := ⟨h.os, h.tape, h.output, h.size, h.block⟩
theorem grown_drew {a b : World} {row : Option Nat} (h : a.grownBy b row) : a.grownBy b.drew row := ⟨h.os, h.tape, h.output, h.size, h.block⟩
theorem grown_cell {a b : World} {g q o : Nat} (h : a.grownBy b (some g)) (hq : q < a.heap.size) (hne : q ≠ g) : b.cell? ⟨q, o, none⟩ = a.cell? ⟨q, o, none⟩ :=
  World.cell?_of_block (h.block q hq (by simpa using hne))

theorem Rb.grown {a b : World} {g q n : Nat} {f : Nat → Bool} (h : Rb a q n f) (hg : a.grownBy b (some g)) (hne : q ≠ g) : Rb b q n f :=
  ⟨Nat.lt_of_lt_of_le h.lt hg.size, fun i hi => by rw [grown_cell hg h.lt hne]; exact h.cell i hi⟩

theorem den_rows {nx lt : Nat → Nat} {nd : Nd} {r1 r2 : List (Nat → Prop)} (hl : leafB nd.op = false → r1.getD nd.l (fun _ => False) = r2.getD nd.l (fun _ => False)) (hr : twoB nd.op = true → r1.getD nd.r (fun _ => False) = r2.getD nd.r (fun _ => False))
    (hop : leafB nd.op = true ∨ oneB nd.op = true ∨ twoB nd.op = true) (i : Nat) : den nx lt nd r1 i ↔ den nx lt nd r2 i := by
  unfold den
  rcases hop with hop | hop | hop
  · rcases leaf_is hop with e | e | e | e | e <;> simp [e]
  · have h1 := hl (leaf_not_one hop)
    rcases one_is hop with e | e | e | e <;> simp only [e, h1, Nat.reduceEqDiff, if_false, if_true]
  · have h1 := hl (two_not_leaf hop)
    have h2 := hr hop
    rcases two_is hop with e | e | e | e <;> simp only [e, h1, h2, Nat.reduceEqDiff, if_false, if_true]

theorem wf2_class {ns : List Nd} (h : Wf2 ns) {k : Nat} {nd : Nd} (hn : ns[k]? = some nd) : (leafB nd.op = true ∨ oneB nd.op = true ∨ twoB nd.op = true) ∧ (leafB nd.op = false → nd.l < k) ∧ (twoB nd.op = true → nd.r < k) := by
  rcases h k nd hn with ⟨h1, _, _⟩ | ⟨h1, h2, _⟩ | ⟨h1, h2, h3⟩
  · exact ⟨Or.inl h1, fun h => by rw [h1] at h; simp at h, fun h => by rw [leaf_not_two h1] at h; simp at h⟩
  · exact ⟨Or.inr (Or.inl h1), fun _ => h2, fun h => by rw [one_not_two h1] at h; simp at h⟩
  · exact ⟨Or.inr (Or.inr h1), fun _ => h2, fun _ => h3⟩

theorem sem_den {nx lt : Nat → Nat} {ns : List Nd} {k : Nat} {nd : Nd} (hn : ns[k]? = some nd) (hw : Wf2 ns) (i : Nat) : sem nx lt ns k i ↔ den nx lt nd (rows nx lt ns) i := by
  obtain ⟨hk, e⟩ := List.getElem?_eq_some_iff.1 hn
  obtain ⟨hc, h1, h2⟩ := wf2_class hw hn
  have e1 : ns = (ns.take k ++ [nd]) ++ ns.drop (k + 1) := by
    rw [List.append_assoc, ← e]
    simp
  have hlen : (ns.take k).length = k := by simp; omega
  have e2 : sem nx lt ns k i = den nx lt nd (rows nx lt (ns.take k)) i := by
    have h3 := sem_new nx lt (ns.take k) nd i
    rw [hlen] at h3
    rw [← h3]
    conv => lhs; rw [e1]
    exact sem_pre (by simp; omega) i
  have e3 : ∀ l, l < k → (rows nx lt (ns.take k)).getD l (fun _ => False) = (rows nx lt ns).getD l (fun _ => False) := by
    intro l hl
    funext j
    have h4 : sem nx lt (ns.take k ++ ns.drop k) l j = sem nx lt (ns.take k) l j := sem_pre (by omega) j
    rw [List.take_append_drop] at h4
    exact h4.symm
  rw [e2]
  exact den_rows (fun h => e3 _ (h1 h)) (fun h => e3 _ (h2 h)) hc i

theorem part_cells' {w : World} {P : Nat} {c0 c1 c2 c3 : Value} (h : w.heap[P]? = some (.cells #[c0, c1, c2, c3] 165 (0, 0))) :
    w.cell? ⟨P, 0, none⟩ = some c0 ∧ w.cell? ⟨P, 1, none⟩ = some c1 ∧ w.cell? ⟨P, 2, none⟩ = some c2 ∧ w.cell? ⟨P, 3, none⟩ = some c3 := by
  refine ⟨?_, ?_, ?_, ?_⟩ <;> (rw [cell_of_row w P _ _ _ _ h]; rfl)

section
variable (ns : List Nd) (bs : List Nat) (gw n wcap back : Nat) (xs : List Nat)

def RowPost (k : Nat) (w : World) (e : Ending) (w' : World) : Prop :=
  ∃ (g : Nat) (f : Nat → Bool), e = .returned (.slice (some ⟨g, 0, none⟩) n n) ∧ (∀ i, i < n → (f i = true ↔ sem (lnx n back) (ltOf xs) ns k i)) ∧ w.heap.size ≤ g ∧ Rb w' g n f ∧ Below w.heap.size w w'

def RowAt (k : Nat) : Prop := ∀ (w : World) (b : Nat), Parts w ns bs → Wd w gw n wcap xs → bs[k]? = some b →
  Calls Try.prog 80 #[.pointer (some ⟨b, 0, none⟩), .slice (some ⟨gw, 0, none⟩) n wcap, .int .i64 back] w (RowPost ns n back xs k w)

/-- The end of a row that has been written. -/
theorem row_done {k : Nat} {w wS wr : World} {f : Nat → Bool} (hbS : Below w.heap.size w wS) (hg : wS.grownBy wr (some w.heap.size)) (hsz : w.heap.size < wS.heap.size)
    (own : wr.ownsRow w.heap.size 4 1 (.slice (some ⟨w.heap.size, 0, none⟩) n n) n (outTo f n n)) (hf : ∀ i, i < n → (f i = true ↔ sem (lnx n back) (ltOf xs) ns k i)) :
    RowPost ns n back xs k w (.returned (.slice (some ⟨w.heap.size, 0, none⟩) n n)) wr := by
  refine ⟨w.heap.size, f, rfl, hf, Nat.le_refl _, ⟨Nat.lt_of_lt_of_le hsz hg.size, fun i hi => ?_⟩, hbS.grown hg hbS.size (fun k h => by cases h; exact Nat.le_refl _)⟩
  rw [own.cellAt i (by omega)]
  exact outTo_get f n i hi
end

end Go.Proofs.Ytjagijohfkffiaa
