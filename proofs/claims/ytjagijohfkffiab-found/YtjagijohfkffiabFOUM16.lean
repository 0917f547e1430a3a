import Derived.Test.YtjagijohfkffiabFOUM03
import Derived.Test.YtjagijohfkffiabFOUM15

/- The walk of the reference's row. -/
namespace Go.Proofs.Ytjagijohfkffiab
open Go.RowKit
set_option linter.unusedVariables false

/-- The parts of the nodes ns lie in the blocks bs. -/
def Parts (w : World) (ns : List Nd) (bs : List Nat) : Prop := ∀ (i : Nat) (nd : Nd), ns[i]? = some nd → ∃ b, bs[i]? = some b ∧ w.heap[b]? = some (partObj bs i nd)

theorem Parts.below {w w' : World} {ns : List Nd} {bs : List Nat} (h : Parts w ns bs) (hb : Below w.heap.size w w') : Parts w' ns bs := fun i nd hn => by
  obtain ⟨b, e, hh⟩ := h i nd hn
  exact ⟨b, e, by rw [hb.block b (heap_lt hh)]; exact hh⟩

/-- The letters of the word in memory. -/
structure Wd (w : World) (g n cap : Nat) (xs : List Nat) : Prop where
  lt : g < w.heap.size
  cap : n ≤ cap
  cell : ∀ i, i < n → w.cell? ⟨g, i, none⟩ = some (.int .i64 (ltOf xs i : Nat))

theorem Wd.below {w w' : World} {g n cap : Nat} {xs : List Nat} (h : Wd w g n cap xs) (hb : Below w.heap.size w w') : Wd w' g n cap xs :=
  ⟨Nat.lt_of_lt_of_le h.lt hb.size, h.cap, fun i hi => by rw [hb.cell (p := ⟨g, i, none⟩) h.lt]; exact h.cell i hi⟩

/-- What has been written of a row, up to j. -/
def outTo (f : Nat → Bool) (n j : Nat) : List Value := (List.range n).map fun i => .bool (if i < j then f i else false)
theorem grown_cell {a b : World} {g q o : Nat} (h : a.grownBy b (some g)) (hq : q < a.heap.size) (hne : q ≠ g) : b.cell? ⟨q, o, none⟩ = a.cell? ⟨q, o, none⟩ :=
  World.cell?_of_block (h.block q hq (by simpa using hne))

theorem Rb.grown {a b : World} {g q n : Nat} {f : Nat → Bool} (h : Rb a q n f) (hg : a.grownBy b (some g)) (hne : q ≠ g) : Rb b q n f :=
  ⟨Nat.lt_of_lt_of_le h.lt hg.size, fun i hi => by rw [grown_cell hg h.lt hne]; exact h.cell i hi⟩

theorem den_rows {nx lt : Nat → Nat} {nd : Nd} {r1 r2 : List (Nat → Prop)} (hl : leafB nd.op = false → r1.getD nd.l (fun _ => False) = r2.getD nd.l (fun _ => False)) (hr : twoB nd.op = true → r1.getD nd.r (fun _ => False) = r2.getD nd.r (fun _ => False))
    (hop : leafB nd.op = true ∨ oneB nd.op = true ∨ twoB nd.op = true) (i : Nat) : den nx lt nd r1 i ↔ den nx lt nd r2 i := by
  unfold den
  rcases hop with hop | hop | hop
  · rcases leaf_is hop with e | e | e | e | e <;> simp [e]
  · have h1 := hl (leaf_not_one hop)
    rcases one_is hop with e | e | e | e <;> simp only [e, h1, Nat.reduceEqDiff, if_false, if_true]
  · have h1 := hl (two_not_leaf hop)
    have h2 := hr hop
    rcases two_is hop with e | e | e | e <;> simp only [e, h1, h2, Nat.reduceEqDiff, if_false, if_true]

theorem wf2_class {ns : List Nd} (h : Wf2 ns) {k : Nat} {nd : Nd} (hn : ns[k]? = some nd) : (leafB nd.op = true ∨ oneB nd.op = true ∨ twoB nd.op = true) ∧ (leafB nd.op = false → nd.l < k) ∧ (twoB nd.op = true → nd.r < k) := by
  rcases h k nd hn with ⟨h1, _, _⟩ | ⟨h1, h2, _⟩ | ⟨h1, h2, h3⟩
  · exact ⟨Or.inl h1, fun h => by rw [h1] at h; simp at h, fun h => by rw [leaf_not_two h1] at h; simp at h⟩
  · exact ⟨Or.inr (Or.inl h1), fun _ => h2, fun h => by rw [one_not_two h1] at h; simp at h⟩
  · exact ⟨Or.inr (Or.inr h1), fun _ => h2, fun _ => h3⟩

theorem sem_den {nx lt : Nat → Nat} {ns : List Nd} {k : Nat} {nd : Nd} (hn : ns[k]? = some nd) (hw : Wf2 ns) (i : Nat) : sem nx lt ns k i ↔ den nx lt nd (rows nx lt ns) i := by
  obtain ⟨hk, e⟩ := List.getElem?_eq_some_iff.1 hn
  obtain ⟨hc, h1, h2⟩ := wf2_class hw hn
  have e1 : ns = (ns.take k ++ [nd]) ++ ns.drop (k + 1) := by
    rw [List.append_assoc, ← e]
    simp
  have hlen : (ns.take k).length = k := by simp; omega
  have e2 : sem nx lt ns k i = den nx lt nd (rows nx lt (ns.take k)) i := by
    have h3 := sem_new nx lt (ns.take k) nd i
    rw [hlen] at h3
    rw [← h3]
    conv => lhs; rw [e1]
    exact sem_pre (by simp; omega) i
  have e3 : ∀ l, l < k → (rows nx lt (ns.take k)).getD l (fun _ => False) = (rows nx lt ns).getD l (fun _ => False) := by
    intro l hl
    funext j
    have h4 : sem nx lt (ns.take k ++ ns.drop k) l j = sem nx lt (ns.take k) l j := sem_pre (by omega) j
    rw [List.take_append_drop] at h4
    exact h4.symm
  rw [e2]
  exact den_rows (fun h => e3 _ (h1 h)) (fun h => e3 _ (h2 h)) hc i

section
variable (ns : List Nd) (bs : List Nat) (gw n wcap back : Nat) (xs : List Nat)

end

end Go.Proofs.Ytjagijohfkffiab

/- Plain mathematics: endless rows of sets of nodes, and that those that keep every promise are the truth of their word. -/
namespace Go.Proofs.Ytjagijohfkffiab

/-- A set may stand at a place with letter x, if T stands at the next one. -/
def Step (ns : List Nd) (x : Nat) (S T : Nat → Bool) : Prop := ∀ (k : Nat) (nd : Nd), ns[k]? = some nd → S k = lawB nd.op x (S nd.l) (S nd.r) (T k) (T nd.l)

/-- Node k owes nothing in this set. -/
def keptN (nd : Nd) (k : Nat) (S : Nat → Bool) : Bool :=
  if nd.op = 70 then S nd.l || !S k else if nd.op = 85 then S nd.r || !S k else if nd.op = 71 then S k || !S nd.l else if nd.op = 82 then S k || !S nd.r else true

/-- An endless row of sets over the word x that keeps every promise. -/
structure ERow (ns : List Nd) (x : Nat → Nat) (S : Nat → Nat → Bool) : Prop where
  step : ∀ t, Step ns (x t) (S t) (S (t + 1))
  kept : ∀ (k : Nat) (nd : Nd), ns[k]? = some nd → ∀ t, ∃ t', t ≤ t' ∧ keptN nd k (S t') = true

theorem until_row {A B x : Nat → Bool} (h : ∀ t, x t = (B t || (A t && x (t + 1)))) (hk : ∀ t, ∃ t', t ≤ t' ∧ (B t' = true ∨ x t' = false)) (t : Nat) : x t = true ↔ ∃ s, B (t + s) = true ∧ ∀ m, m < s → A (t + m) = true := by
  constructor
  · intro hx
    obtain ⟨t', ht, hd⟩ := hk t
    obtain ⟨d, rfl⟩ : ∃ d, t' = t + d := ⟨t' - t, by omega⟩
    clear ht
    induction d generalizing t with
    | zero =>
      refine ⟨0, ?_, fun m hm => by omega⟩
      rcases hd with h1 | h1
      · exact h1
      · rw [Nat.add_zero] at h1; rw [h1] at hx; simp at hx
    | succ d ih =>
      by_cases hB : B t = true
      · exact ⟨0, hB, fun m hm => by omega⟩
      · rw [h t] at hx
        simp only [hB, Bool.or_eq_true, Bool.and_eq_true, Bool.false_eq_true, false_or] at hx
        obtain ⟨s, h1, h2⟩ := ih (t + 1) hx.2 (by rw [show t + 1 + d = t + (d + 1) by omega]; exact hd)
        refine ⟨s + 1, by rw [show t + (s + 1) = t + 1 + s by omega]; exact h1, fun m hm => ?_⟩
        cases m with
        | zero => exact hx.1
        | succ m => rw [show t + (m + 1) = t + 1 + m by omega]; exact h2 m (by omega)
  · rintro ⟨s, h1, h2⟩
    induction s generalizing t with
    | zero => rw [h t]; simp at h1; simp [h1]
    | succ s ih =>
      have ha := h2 0 (by omega)
      rw [Nat.add_zero] at ha
      rw [h t, ha, ih (t + 1) (by rw [show t + 1 + s = t + (s + 1) by omega]; exact h1) (fun m hm => by rw [show t + 1 + m = t + (m + 1) by omega]; exact h2 (m + 1) (by omega))]
      simp

theorem den_inf (lt : Nat → Nat) (nd : Nd) (rs : List (Nat → Prop)) (t : Nat) : den (fun i => i + 1) lt nd rs t ↔
    if nd.op = 49 then True else if nd.op = 112 then (lt t).testBit 0 = true else if nd.op = 113 then (lt t).testBit 1 = true else if nd.op = 114 then (lt t).testBit 2 = true
    else if nd.op = 33 then ¬ rs.getD nd.l (fun _ => False) t else if nd.op = 88 then rs.getD nd.l (fun _ => False) (t + 1)
    else if nd.op = 70 then ∃ s, rs.getD nd.l (fun _ => False) (t + s) else if nd.op = 71 then ∀ s, rs.getD nd.l (fun _ => False) (t + s)
    else if nd.op = 38 then rs.getD nd.l (fun _ => False) t ∧ rs.getD nd.r (fun _ => False) t else if nd.op = 124 then rs.getD nd.l (fun _ => False) t ∨ rs.getD nd.r (fun _ => False) t
    else if nd.op = 85 then ∃ s, rs.getD nd.r (fun _ => False) (t + s) ∧ ∀ m, m < s → rs.getD nd.l (fun _ => False) (t + m)
    else if nd.op = 82 then ∀ s, rs.getD nd.r (fun _ => False) (t + s) ∨ ∃ m, m < s ∧ rs.getD nd.l (fun _ => False) (t + m) else False := by
  unfold den
  have e : ∀ s i, it (fun i => i + 1) s i = i + s := by
    intro s
    induction s with
    | zero => intro i; rfl
    | succ s ih => intro i; simp only [it]; rw [ih]; omega
  simp only [e]

/-- A row that keeps every promise is the truth of its word. -/
theorem erow_sem {ns : List Nd} (hw : Wf2 ns) {x : Nat → Nat} {S : Nat → Nat → Bool} (h : ERow ns x S) (k : Nat) (hk : k < ns.length) (t : Nat) : S t k = true ↔ sem (fun i => i + 1) x ns k t := by
  induction k using Nat.strongRecOn generalizing t with
  | _ k ih =>
    have hn : ns[k]? = some ns[k] := List.getElem?_eq_getElem hk
    obtain ⟨hc, h1, h2⟩ := wf2_class hw hn
    have st := fun t => h.step t k _ hn
    have kp := h.kept k _ hn
    rw [sem_den hn hw, den_inf]
    generalize ns[k] = nd at *
    have L : leafB nd.op = false → ∀ t, (S t nd.l = true ↔ (rows (fun i => i + 1) x ns).getD nd.l (fun _ => False) t) := fun hl t => ih nd.l (h1 hl) (by have := h1 hl; omega) t
    have R : twoB nd.op = true → ∀ t, (S t nd.r = true ↔ (rows (fun i => i + 1) x ns).getD nd.r (fun _ => False) t) := fun hr t => ih nd.r (h2 hr) (by have := h2 hr; omega) t
    rcases hc with hc | hc | hc
    · rcases leaf_is hc with e | e | e | e | e <;> (simp only [e] at st ⊢; rw [st t]; simp [lawB])
    · have L := L (leaf_not_one hc)
      rcases one_is hc with e | e | e | e
      · simp only [e] at st ⊢; rw [st t]; simp [lawB, ← L]
      · simp only [e] at st ⊢; rw [st t]; simp [lawB, ← L]
      · simp only [e, Nat.reduceEqDiff, if_false, if_true] at st ⊢
        have key := until_row (A := fun _ => true) (B := fun t => S t nd.l) (x := fun t => S t k) (fun t => by rw [st t]; simp [lawB]) (fun t => by
          obtain ⟨t', ht, hq⟩ := kp t
          refine ⟨t', ht, ?_⟩
          simp only [keptN, e, if_true] at hq
          simpa using hq) t
        rw [key]
        simp [L]
      · simp only [e, Nat.reduceEqDiff, if_false, if_true] at st ⊢
        have key := until_row (A := fun _ => true) (B := fun t => !S t nd.l) (x := fun t => !S t k) (fun t => by rw [st t]; simp [lawB]) (fun t => by
          obtain ⟨t', ht, hq⟩ := kp t
          refine ⟨t', ht, ?_⟩
          simp only [keptN, e, Nat.reduceEqDiff, if_false, if_true] at hq
          simpa [or_comm] using hq) t
        have key2 : S t k = true ↔ ¬ ∃ s, (!S (t + s) nd.l) = true ∧ ∀ m, m < s → true = true := by rw [← key]; simp
        rw [key2]
        simp [← L]
    · have L := L (two_not_leaf hc)
      have R := R hc
      rcases two_is hc with e | e | e | e
      · simp only [e] at st ⊢; rw [st t]; simp [lawB, ← L, ← R]
      · simp only [e] at st ⊢; rw [st t]; simp [lawB, ← L, ← R]
      · simp only [e, Nat.reduceEqDiff, if_false, if_true] at st ⊢
        have key := until_row (A := fun t => S t nd.l) (B := fun t => S t nd.r) (x := fun t => S t k) (fun t => by rw [st t]; simp [lawB]) (fun t => by
          obtain ⟨t', ht, hq⟩ := kp t
          refine ⟨t', ht, ?_⟩
          simp only [keptN, e, Nat.reduceEqDiff, if_false, if_true] at hq
          simpa using hq) t
        rw [key]
        simp [L, R]
      · simp only [e, Nat.reduceEqDiff, if_false, if_true] at st ⊢
        have key := until_row (A := fun t => !S t nd.l) (B := fun t => !S t nd.r) (x := fun t => !S t k) (fun t => by rw [st t]; simp [lawB]) (fun t => by
          obtain ⟨t', ht, hq⟩ := kp t
          refine ⟨t', ht, ?_⟩
          simp only [keptN, e, Nat.reduceEqDiff, if_false, if_true] at hq
          simpa [or_comm] using hq) t
        have key2 : S t k = true ↔ ¬ ∃ s, (!S (t + s) nd.r) = true ∧ ∀ m, m < s → (!S (t + m) nd.l) = true := by rw [← key]; simp
        rw [key2]
        constructor
        · intro h s
          rw [← R]
          cases hr : S (t + s) nd.r with
          | true => exact Or.inl rfl
          | false =>
            refine Or.inr (Classical.byContradiction fun hn => h ⟨s, by simp [hr], fun m hm => ?_⟩)
            cases hl : S (t + m) nd.l with
            | false => rfl
            | true => exact absurd ⟨m, hm, (L _).1 hl⟩ hn
        · rintro h ⟨s, h3, h4⟩
          rcases h s with h5 | ⟨m, hm, h5⟩
          · rw [(R _).2 h5] at h3; simp at h3
          · have := h4 m hm; rw [(L _).2 h5] at this; simp at this

/-- The truth of a word is a row that keeps every promise. -/
theorem erow_truth {ns : List Nd} (hw : Wf2 ns) (x : Nat → Nat) : ∃ S : Nat → Nat → Bool, (∀ t k, S t k = true ↔ sem (fun i => i + 1) x ns k t) ∧ ERow ns x S := by
  refine ⟨fun t k => @decide _ (Classical.propDecidable (sem (fun i => i + 1) x ns k t)), fun t k => by simp, ?_, ?_⟩
  · intro t k nd hn
    obtain ⟨hc, h1, h2⟩ := wf2_class hw hn
    have e0 := sem_den (nx := fun i => i + 1) (lt := x) hn hw t
    have e1 := sem_den (nx := fun i => i + 1) (lt := x) hn hw (t + 1)
    rw [den_inf] at e0 e1
    rw [Bool.eq_iff_iff]
    simp only [decide_eq_true_eq]
    rw [e0]
    have fx : ∀ (P Q : Nat → Prop), (∃ s, Q (t + s) ∧ ∀ m, m < s → P (t + m)) ↔ Q t ∨ (P t ∧ ∃ s, Q (t + 1 + s) ∧ ∀ m, m < s → P (t + 1 + m)) := by
      intro P Q
      constructor
      · rintro ⟨s, h3, h4⟩
        cases s with
        | zero => exact Or.inl h3
        | succ s => exact Or.inr ⟨h4 0 (by omega), s, by rw [show t + 1 + s = t + (s + 1) by omega]; exact h3, fun m hm => by rw [show t + 1 + m = t + (m + 1) by omega]; exact h4 (m + 1) (by omega)⟩
      · rintro (h3 | ⟨h3, s, h4, h5⟩)
        · exact ⟨0, h3, fun m hm => by omega⟩
        · refine ⟨s + 1, by rw [show t + (s + 1) = t + 1 + s by omega]; exact h4, fun m hm => ?_⟩
          cases m with
          | zero => exact h3
          | succ m => rw [show t + (m + 1) = t + 1 + m by omega]; exact h5 m (by omega)
    have ga : ∀ (P : Nat → Prop), (∀ s, P (t + s)) ↔ P t ∧ ∀ s, P (t + 1 + s) := by
      intro P
      constructor
      · intro h; exact ⟨h 0, fun s => by rw [show t + 1 + s = t + (s + 1) by omega]; exact h _⟩
      · rintro ⟨h, h'⟩ s
        cases s with
        | zero => exact h
        | succ s => rw [show t + (s + 1) = t + 1 + s by omega]; exact h' s
    have fa : ∀ (P : Nat → Prop), (∃ s, P (t + s)) ↔ P t ∨ ∃ s, P (t + 1 + s) := by
      intro P
      constructor
      · rintro ⟨s, h⟩
        cases s with
        | zero => exact Or.inl h
        | succ s => exact Or.inr ⟨s, by rw [show t + 1 + s = t + (s + 1) by omega]; exact h⟩
      · rintro (h | ⟨s, h⟩)
        · exact ⟨0, h⟩
        · exact ⟨s + 1, by rw [show t + (s + 1) = t + 1 + s by omega]; exact h⟩
    have ra : ∀ (P Q : Nat → Prop), (∀ s, Q (t + s) ∨ ∃ m, m < s ∧ P (t + m)) ↔ Q t ∧ (P t ∨ ∀ s, Q (t + 1 + s) ∨ ∃ m, m < s ∧ P (t + 1 + m)) := by
      intro P Q
      constructor
      · intro h
        refine ⟨(h 0).resolve_right (fun ⟨m, hm, _⟩ => by omega), ?_⟩
        by_cases hp : P t
        · exact Or.inl hp
        · refine Or.inr fun s => ?_
          rcases h (s + 1) with h3 | ⟨m, hm, h3⟩
          · exact Or.inl (by rw [show t + 1 + s = t + (s + 1) by omega]; exact h3)
          · cases m with
            | zero => exact absurd h3 hp
            | succ m => exact Or.inr ⟨m, by omega, by rw [show t + 1 + m = t + (m + 1) by omega]; exact h3⟩
      · rintro ⟨hq, h⟩ s
        cases s with
        | zero => exact Or.inl hq
        | succ s =>
          rcases h with hp | h
          · exact Or.inr ⟨0, by omega, hp⟩
          · rcases h s with h3 | ⟨m, hm, h3⟩
            · exact Or.inl (by rw [show t + (s + 1) = t + 1 + s by omega]; exact h3)
            · exact Or.inr ⟨m + 1, by omega, by rw [show t + (m + 1) = t + 1 + m by omega]; exact h3⟩
    rcases hc with hc | hc | hc
    · rcases leaf_is hc with e | e | e | e | e <;> simp [e, lawB]
    · rcases one_is hc with e | e | e | e
      · simp only [e, lawB, Nat.reduceEqDiff, if_false, if_true, Bool.not_eq_true', decide_eq_false_iff_not]
        rfl
      · simp only [e, lawB, Nat.reduceEqDiff, if_false, if_true, decide_eq_true_eq]
        rfl
      · simp only [e, Nat.reduceEqDiff, if_false, if_true] at e1 ⊢
        rw [fa]
        simp only [lawB, Nat.reduceEqDiff, if_false, if_true, Bool.or_eq_true, decide_eq_true_eq, e1]
        rfl
      · simp only [e, Nat.reduceEqDiff, if_false, if_true] at e1 ⊢
        rw [ga]
        simp only [lawB, Nat.reduceEqDiff, if_false, if_true, Bool.and_eq_true, decide_eq_true_eq, e1]
        rfl
    · rcases two_is hc with e | e | e | e
      · simp only [e, lawB, Nat.reduceEqDiff, if_false, if_true, Bool.and_eq_true, decide_eq_true_eq]
        rfl
      · simp only [e, lawB, Nat.reduceEqDiff, if_false, if_true, Bool.or_eq_true, decide_eq_true_eq]
        rfl
      · simp only [e, Nat.reduceEqDiff, if_false, if_true] at e1 ⊢
        rw [fx]
        simp only [lawB, Nat.reduceEqDiff, if_false, if_true, Bool.or_eq_true, Bool.and_eq_true, decide_eq_true_eq, e1]
        rfl
      · simp only [e, Nat.reduceEqDiff, if_false, if_true] at e1 ⊢
        rw [ra]
        simp only [lawB, Nat.reduceEqDiff, if_false, if_true, Bool.or_eq_true, Bool.and_eq_true, decide_eq_true_eq, e1]
        rfl
  · intro k nd hn t
    obtain ⟨hc, h1, h2⟩ := wf2_class hw hn
    have e0 := sem_den (nx := fun i => i + 1) (lt := x) hn hw t
    rw [den_inf] at e0
    unfold keptN
    rcases hc with hc | hc | hc
    · rcases leaf_is hc with e | e | e | e | e <;> exact ⟨t, Nat.le_refl _, by simp [e]⟩
    · rcases one_is hc with e | e | e | e
      · exact ⟨t, Nat.le_refl _, by simp [e]⟩
      · exact ⟨t, Nat.le_refl _, by simp [e]⟩
      · simp only [e, Nat.reduceEqDiff, if_false, if_true] at e0 ⊢
        by_cases hs : sem (fun i => i + 1) x ns k t
        · obtain ⟨s, h3⟩ := e0.1 hs
          refine ⟨t + s, by omega, ?_⟩
          simp only [Bool.or_eq_true, decide_eq_true_eq]
          exact Or.inl h3
        · exact ⟨t, Nat.le_refl _, by simp [hs]⟩
      · simp only [e, Nat.reduceEqDiff, if_false, if_true] at e0 ⊢
        by_cases hs : sem (fun i => i + 1) x ns k t
        · exact ⟨t, Nat.le_refl _, by simp [hs]⟩
        · have : ∃ s, ¬ sem (fun i => i + 1) x ns nd.l (t + s) := Classical.byContradiction fun hn => hs (e0.2 fun s => Classical.byContradiction fun h => hn ⟨s, h⟩)
          obtain ⟨s, h3⟩ := this
          exact ⟨t + s, by omega, by simp [h3]⟩
    · rcases two_is hc with e | e | e | e
      · exact ⟨t, Nat.le_refl _, by simp [e]⟩
      · exact ⟨t, Nat.le_refl _, by simp [e]⟩
      · simp only [e, Nat.reduceEqDiff, if_false, if_true] at e0 ⊢
        by_cases hs : sem (fun i => i + 1) x ns k t
        · obtain ⟨s, h3, _⟩ := e0.1 hs
          refine ⟨t + s, by omega, ?_⟩
          simp only [Bool.or_eq_true, decide_eq_true_eq]
          exact Or.inl h3
        · exact ⟨t, Nat.le_refl _, by simp [hs]⟩
      · simp only [e, Nat.reduceEqDiff, if_false, if_true] at e0 ⊢
        by_cases hs : sem (fun i => i + 1) x ns k t
        · exact ⟨t, Nat.le_refl _, by simp [hs]⟩
        · have : ∃ s, ¬ sem (fun i => i + 1) x ns nd.r (t + s) := Classical.byContradiction fun hn => hs (e0.2 fun s => Classical.byContradiction fun h => hn ⟨s, fun h' => h (Or.inl h')⟩)
          obtain ⟨s, h3⟩ := this
          exact ⟨t + s, by omega, by simp [h3]⟩

end Go.Proofs.Ytjagijohfkffiab

/- Plain mathematics: verdicts, by rows of sets. -/
namespace Go.Proofs.Ytjagijohfkffiab

/-- The endless word begins with u. -/
def Begins (u : List Nat) (x : Nat → Nat) : Prop := ∀ i, i < u.length → x i = u.getD i 0
def Letters (x : Nat → Nat) : Prop := ∀ t, x t < 8

/-- Equal as far as there are nodes. -/
def EqOn (n : Nat) (S T : Nat → Bool) : Prop := ∀ k, k < n → S k = T k

theorem EqOn.refl (n : Nat) (S : Nat → Bool) : EqOn n S S := fun _ _ => rfl
theorem EqOn.symm {n : Nat} {S T : Nat → Bool} (h : EqOn n S T) : EqOn n T S := fun k hk => (h k hk).symm
theorem EqOn.trans {n : Nat} {S T U : Nat → Bool} (h : EqOn n S T) (k : EqOn n T U) : EqOn n S U := fun i hi => (h i hi).trans (k i hi)

theorem wf2_lt {ns : List Nd} (hw : Wf2 ns) {k : Nat} {nd : Nd} (hn : ns[k]? = some nd) : k < ns.length ∧ (nd.l < ns.length) ∧ (nd.r < ns.length) := by
  have hk := (List.getElem?_eq_some_iff.1 hn).1
  rcases hw k nd hn with ⟨_, h1, h2⟩ | ⟨_, h1, h2⟩ | ⟨_, h1, h2⟩ <;> omega

/-- The set may begin an endless row that keeps every promise, behind these letters. -/
def chain (ns : List Nd) : List Nat → (Nat → Bool) → Prop
  | [], S => ∃ x S', Letters x ∧ ERow ns x S' ∧ EqOn ns.length (S' 0) S
  | a :: u, S => a < 8 ∧ ∃ T, Step ns a S T ∧ chain ns u T

/-- Some endless word that begins with u makes the formula b. -/
def May (ns : List Nd) (u : List Nat) (b : Bool) : Prop := ∃ x, Letters x ∧ Begins u x ∧ (sem (fun i => i + 1) x ns (ns.length - 1) 0 ↔ b = true)

/-- The verdict, by what may be. -/
def Verdict (ns : List Nd) (u : List Nat) (v : Nat) : Prop := (v = 2 ∧ ¬ May ns u true) ∨ (v = 1 ∧ May ns u true ∧ ¬ May ns u false) ∨ (v = 0 ∧ May ns u true ∧ May ns u false)

end Go.Proofs.Ytjagijohfkffiab

/- Plain mathematics: what the program's groups tell is the verdict. -/
namespace Go.Proofs.Ytjagijohfkffiab
set_option linter.unusedVariables false

theorem law_congr {nd : Nd} {i x : Nat} {a b a' b' t n : Bool} (hw : (leafB nd.op = true ∧ nd.l = 0 ∧ nd.r = 0) ∨ (oneB nd.op = true ∧ nd.l < i ∧ nd.r = 0) ∨ (twoB nd.op = true ∧ nd.l < i ∧ nd.r < i)) (hl : nd.l < i → a = a') (hr : nd.r < i → b = b') : lawB nd.op x a b t n = lawB nd.op x a' b' t n := by
  rcases hw with ⟨h, _, _⟩ | ⟨h, h1, _⟩ | ⟨h, h1, h2⟩
  · simp [leafB] at h
    rcases h with (((h | h) | h) | h) | h <;> simp [lawB, h]
  · rw [hl h1]
    simp [oneB] at h
    rcases h with ((h | h) | h) | h <;> simp [lawB, h]
  · rw [hl h1, hr h2]

def cdTo (S : Nat → Bool) : Nat → Nat
  | 0 => 0
  | k + 1 => wth (cdTo S k) k (S k)
theorem cdTo_lt (S : Nat → Bool) : ∀ k, k ≤ 8 → cdTo S k < 256
  | 0, _ => by simp [cdTo]
  | k + 1, h => wth_lt (cdTo_lt S k (by omega)) (by omega)
theorem cdTo_bit (S : Nat → Bool) : ∀ k, k ≤ 8 → ∀ j, j < 8 → (cdTo S k).testBit j = (if j < k then S j else false)
  | 0, _, j, _ => by simp [cdTo]
  | k + 1, h, j, hj => by
    rw [cdTo, wth_bit (cdTo_lt S k (by omega)) (by omega) hj, cdTo_bit S k (by omega) j hj]
    by_cases e : j = k
    · rw [if_pos e, if_pos (by omega), e]
    · rw [if_neg e]
      by_cases h2 : j < k
      · rw [if_pos h2, if_pos (by omega)]
      · rw [if_neg h2, if_neg (by omega)]
def tb (v : Nat) : Nat → Bool := fun k => v.testBit k

theorem befTo_cd {ns : List Nd} (hg : Good ns) {x N : Nat} {S T : Nat → Bool} (hs : Step ns x S T) (hN : EqOn ns.length (tb N) T) : ∀ k, k ≤ ns.length → befTo ns x N k = cdTo S k
  | 0, _ => rfl
  | k + 1, h => by
    have h8 := hg.le
    have hn := ndAt_gets (ns := ns) (k := k) (by omega)
    obtain ⟨h1, h2, h3⟩ := wf2_lt hg.wf hn
    rw [befTo, cdTo, befTo_cd hg hs hN k (by omega), hs k _ hn]
    congr 1
    have e1 : N.testBit k = T k := hN k (by omega)
    have e2 : N.testBit (ndAt ns k).l = T (ndAt ns k).l := hN _ h2
    rw [e1, e2]
    exact law_congr (hg.wf k _ hn) (fun hl => by rw [cdTo_bit S k (by omega) _ (by omega), if_pos hl]) (fun hr => by rw [cdTo_bit S k (by omega) _ (by omega), if_pos hr])
theorem bef_cd {ns : List Nd} (hg : Good ns) {x N : Nat} {S T : Nat → Bool} (hs : Step ns x S T) (hN : EqOn ns.length (tb N) T) : bef ns x N = cdTo S ns.length := befTo_cd hg hs hN _ (Nat.le_refl _)
theorem cd_eqOn {ns : List Nd} (hg : Good ns) (S : Nat → Bool) : EqOn ns.length (tb (cdTo S ns.length)) S := fun k hk => by
  have h8 := hg.le
  show (cdTo S ns.length).testBit k = S k
  rw [cdTo_bit S _ h8 k (by omega), if_pos hk]
/-- The laws leave no choice. -/
theorem bef_eqOn {ns : List Nd} (hg : Good ns) {x N : Nat} {S T : Nat → Bool} (hs : Step ns x S T) (hN : EqOn ns.length (tb N) T) : EqOn ns.length (tb (bef ns x N)) S := by
  rw [bef_cd hg hs hN]; exact cd_eqOn hg S

theorem befTo_stable (ns : List Nd) (x N : Nat) {j k : Nat} (hj : j < k) : ∀ d, k + d ≤ 8 → (befTo ns x N (k + d)).testBit j = (befTo ns x N k).testBit j
  | 0, _ => rfl
  | d + 1, h => by
    rw [show k + (d + 1) = (k + d) + 1 by omega, befTo, wth_bit (befTo_lt ns x N _ (by omega)) (by omega) (by omega), if_neg (by omega)]
    exact befTo_stable ns x N hj d (by omega)
theorem bef_step {ns : List Nd} (hg : Good ns) (x N : Nat) : Step ns x (tb (bef ns x N)) (tb N) := by
  intro k nd hn
  have h8 := hg.le
  obtain ⟨h1, h2, h3⟩ := wf2_lt hg.wf hn
  have hnd : ndAt ns k = nd := by have := ndAt_gets (ns := ns) h1; rw [hn] at this; exact (Option.some.inj this).symm
  have st : ∀ j i, j < i → i ≤ ns.length → (bef ns x N).testBit j = (befTo ns x N i).testBit j := fun j i hj hi => by
    have := befTo_stable ns x N hj (ns.length - i) (by omega)
    rw [show i + (ns.length - i) = ns.length by omega] at this
    exact this
  show (bef ns x N).testBit k = _
  rw [st k (k + 1) (by omega) (by omega), befTo, wth_bit (befTo_lt ns x N k (by omega)) (by omega) (by omega), if_pos rfl, hnd]
  exact law_congr (hg.wf k nd hn) (fun hl => (st _ _ hl (by omega)).symm) (fun hr => (st _ _ hr (by omega)).symm)

theorem ew_any {ns : List Nd} {y a : Nat} : Ew 1 ns (anyInto 8) y a ↔ a < 256 ∧ ∃ l, l < 8 ∧ y = bef ns l a := by
  unfold Ew
  constructor
  · rintro ⟨ha, st, hs, rfl⟩
    have h0 : a / 256 = 0 := by omega
    rw [h0] at hs
    simp [anyInto] at hs
    obtain ⟨l, hl, rfl⟩ := hs
    exact ⟨by omega, l, hl, by simp [show a % 256 = a by omega]⟩
  · rintro ⟨ha, l, hl, rfl⟩
    refine ⟨by omega, (0, l), ?_, by simp [show a % 256 = a by omega]⟩
    have h0 : a / 256 = 0 := by omega
    rw [h0]
    simp [anyInto, hl]

theorem calm_kept {nd : Nd} {k x : Nat} {S T : Nat → Bool} (hs : S k = lawB nd.op x (S nd.l) (S nd.r) (T k) (T nd.l)) (hw : waitsB nd.op = true) : keptN nd k S = (S k == S (endN nd)) := by
  simp [waitsB, lastsB] at hw
  rcases hw with (h | h) | h | h
  · simp only [lawB, keptN, endN, h] at *
    simp at *
    rw [hs]
    cases S nd.l <;> cases T k <;> rfl
  · simp only [lawB, keptN, endN, h] at *
    simp at *
    rw [hs]
    cases S nd.l <;> cases S nd.r <;> cases T k <;> rfl
  · simp only [lawB, keptN, endN, h] at *
    simp at *
    rw [hs]
    cases S nd.l <;> cases T k <;> rfl
  · simp only [lawB, keptN, endN, h] at *
    simp at *
    rw [hs]
    cases S nd.l <;> cases S nd.r <;> cases T k <;> rfl
theorem kept_else {nd : Nd} {k : Nat} {S : Nat → Bool} (hw : waitsB nd.op = false) : keptN nd k S = true := by
  simp [waitsB, lastsB] at hw
  simp [keptN, hw]

theorem mem_spreads {ns : List Nd} {c : Nat → Bool} {m : Nat} : c ∈ spreads (calmsTo ns m) ↔ ∃ k, k < m ∧ waitsB (ndAt ns k).op = true ∧ c = spread (calmB k (endN (ndAt ns k))) := by
  simp only [spreads, calmsTo, List.map_map, List.mem_map, List.mem_filter, List.mem_range, Function.comp]
  constructor
  · rintro ⟨k, ⟨h1, h2⟩, rfl⟩; exact ⟨k, h1, h2, rfl⟩
  · rintro ⟨k, h1, h2, rfl⟩; exact ⟨k, ⟨h1, h2⟩, rfl⟩
theorem meets_of_all {cs : List (Nat → Bool)} {q : Nat → Nat} (h : ∀ c ∈ cs, ∀ t, ∃ t', t ≤ t' ∧ c (q t') = true) : Meets (KL cs) cs.length q := fun k hk t => by
  obtain ⟨t', h1, h2⟩ := h cs[k] (List.getElem_mem hk) t
  exact ⟨t', h1, cs[k], List.getElem?_eq_getElem hk, h2⟩

abbrev Lives (ns : List Nd) (v : Nat) : Prop := Forever (Ew 1 ns (anyInto 8)) (spreads (calmsTo ns ns.length)) v

theorem lives_bef {ns : List Nd} {x N : Nat} (hx : x < 8) (h : Lives ns N) (hN : N < 256) : Lives ns (bef ns x N) := by
  obtain ⟨q, h0, hq, hm⟩ := h
  refine ⟨fun t => if t = 0 then bef ns x N else q (t - 1), rfl, fun t => ?_, fun k hk t => ?_⟩
  · cases t with
    | zero => simp; rw [h0]; exact ew_any.2 ⟨hN, x, hx, rfl⟩
    | succ t => simpa using hq t
  · obtain ⟨t', h1, h2⟩ := hm k hk t
    exact ⟨t' + 1, by omega, by simpa using h2⟩
theorem lives_lt {ns : List Nd} (h8 : ns.length ≤ 8) {v : Nat} (h : Lives ns v) : v < 256 := by
  obtain ⟨q, rfl, hq, _⟩ := h
  obtain ⟨_, l, _, e⟩ := ew_any.1 (hq 0)
  rw [e]; exact bef_lt h8 _ _

/-- The view at the start, from the one behind the word. -/
def back (ns : List Nd) : List Nat → Nat → Nat
  | [], N => N
  | a :: u, N => bef ns a (back ns u N)
theorem back_snoc (ns : List Nd) (u : List Nat) (x N : Nat) : back ns (u ++ [x]) N = back ns u (bef ns x N) := by
  induction u with
  | nil => rfl
  | cons a u ih => simp [back, ih]

theorem runG_iff {ns : List Nd} (hg : Good ns) {liv : Nat → Bool} (hl : LivP ns (calmsTo ns ns.length) liv) (u : List Nat) (hu : ∀ x ∈ u, x < 8) : ∀ N, (runG ns liv (begB ns liv) u N = true ↔ liv N = true ∧ (back ns u N).testBit (ns.length - 1) = true) := by
  have h8 := hg.le
  generalize hn : u.length = n
  induction n generalizing u with
  | zero =>
    obtain rfl := List.eq_nil_of_length_eq_zero hn
    intro N
    simp [runG, begB, back]
  | succ n ih =>
    intro N
    obtain ⟨u', x, rfl⟩ : ∃ u' x, u = u' ++ [x] := ⟨u.dropLast, u.getLast (by intro e; rw [e] at hn; simp at hn), (List.dropLast_concat_getLast _).symm⟩
    rw [runG_snoc, back_snoc]
    have hx := hu x (by simp)
    unfold stepG
    rw [Bool.and_eq_true, ih u' (fun y hy => hu y (by simp [hy])) (by simpa using hn)]
    constructor
    · rintro ⟨h1, _, h2⟩; exact ⟨h1, h2⟩
    · rintro ⟨h1, h2⟩
      have hN := (hl N).1 h1
      exact ⟨h1, (hl _).2 (lives_bef hx hN (lives_lt h8 hN)), h2⟩

end Go.Proofs.Ytjagijohfkffiab
