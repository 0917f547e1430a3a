import Derived.Test.YtjagijohfkffiabKINM15

/- Plain mathematics: endless rows of sets of nodes, and that those that keep every promise are the truth of their word. -/
namespace Go.Proofs.Ytjagijohfkffiab

/-- A set may stand at a place with letter x, if T stands at the next one. -/
def Step (ns : List Nd) (x : Nat) (S T : Nat → Bool) : Prop := ∀ (k : Nat) (nd : Nd), ns[k]? = some nd → S k = lawB nd.op x (S nd.l) (S nd.r) (T k) (T nd.l)

/-- Node k owes nothing in this set. -/
def keptN (nd : Nd) (k : Nat) (S : Nat → Bool) : Bool :=
  if nd.op = 70 then S nd.l || !S k else if nd.op = 85 then S nd.r || !S k else if nd.op = 71 then S k || !S nd.l else if nd.op = 82 then S k || !S nd.r else true

/-- An endless row of sets over the word x that keeps every promise. -/
structure ERow (ns : List Nd) (x : Nat → Nat) (S : Nat → Nat → Bool) : Prop where
  step : ∀ t, Step ns (x t) (S t) (S (t + 1))
  kept : ∀ (k : Nat) (nd : Nd), ns[k]? = some nd → ∀ t, ∃ t', t ≤ t' ∧ keptN nd k (S t') = true

theorem until_row {A B x : Nat → Bool} (h : ∀ t, x t = (B t || (A t && x (t + 1)))) (hk : ∀ t, ∃ t', t ≤ t' ∧ (B t' = true ∨ x t' = false)) (t : Nat) : x t = true ↔ ∃ s, B (t + s) = true ∧ ∀ m, m < s → A (t + m) = true := by
  constructor
  · intro hx
    obtain ⟨t', ht, hd⟩ := hk t
    obtain ⟨d, rfl⟩ : ∃ d, t' = t + d := ⟨t' - t, by omega⟩
    clear ht
    induction d generalizing t with
    | zero =>
      refine ⟨0, ?_, fun m hm => by omega⟩
      rcases hd with h1 | h1
      · exact h1
      · rw [Nat.add_zero] at h1; rw [h1] at hx; simp at hx
    | succ d ih =>
      by_cases hB : B t = true
      · exact ⟨0, hB, fun m hm => by omega⟩
      · rw [h t] at hx
        simp only [hB, Bool.or_eq_true, Bool.and_eq_true, Bool.false_eq_true, false_or] at hx
        obtain ⟨s, h1, h2⟩ := ih (t + 1) hx.2 (by rw [show t + 1 + d = t + (d + 1) by omega]; exact hd)
        refine ⟨s + 1, by rw [show t + (s + 1) = t + 1 + s by omega]; exact h1, fun m hm => ?_⟩
        cases m with
        | zero => exact hx.1
        | succ m => rw [show t + (m + 1) = t + 1 + m by omega]; exact h2 m (by omega)
  · rintro ⟨s, h1, h2⟩
    induction s generalizing t with
    | zero => rw [h t]; simp at h1; simp [h1]
    | succ s ih =>
      have ha := h2 0 (by omega)
      rw [Nat.add_zero] at ha
      rw [h t, ha, ih (t + 1) (by rw [show t + 1 + s = t + (s + 1) by omega]; exact h1) (fun m hm => by rw [show t + 1 + m = t + (m + 1) by omega]; exact h2 (m + 1) (by omega))]
      simp

theorem den_inf (lt : Nat → Nat) (nd : Nd) (rs : List (Nat → Prop)) (t : Nat) : den (fun i => i + 1) lt nd rs t ↔
    if nd.op = 49 then True else if nd.op = 112 then (lt t).testBit 0 = true else if nd.op = 113 then (lt t).testBit 1 = true else if nd.op = 114 then (lt t).testBit 2 = true
    else if nd.op = 33 then ¬ rs.getD nd.l (fun _ => False) t else if nd.op = 88 then rs.getD nd.l (fun _ => False) (t + 1)
    else if nd.op = 70 then ∃ s, rs.getD nd.l (fun _ => False) (t + s) else if nd.op = 71 then ∀ s, rs.getD nd.l (fun _ => False) (t + s)
    else if nd.op = 38 then rs.getD nd.l (fun _ => False) t ∧ rs.getD nd.r (fun _ => False) t else if nd.op = 124 then rs.getD nd.l (fun _ => False) t ∨ rs.getD nd.r (fun _ => False) t
    else if nd.op = 85 then ∃ s, rs.getD nd.r (fun _ => False) (t + s) ∧ ∀ m, m < s → rs.getD nd.l (fun _ => False) (t + m)
    else if nd.op = 82 then ∀ s, rs.getD nd.r (fun _ => False) (t + s) ∨ ∃ m, m < s ∧ rs.getD nd.l (fun _ => False) (t + m) else False := by
  unfold den
  have e : ∀ s i, it (fun i => i + 1) s i = i + s := by
    intro s
    induction s with
    | zero => intro i; rfl
    | succ s ih => intro i; simp only [it]; rw [ih]; omega
  simp only [e]

/-- A row that keeps every promise is the truth of its word. -/
theorem erow_sem {ns : List Nd} (hw : Wf2 ns) {x : Nat → Nat} {S : Nat → Nat → Bool} (h : ERow ns x S) (k : Nat) (hk : k < ns.length) (t : Nat) : S t k = true ↔ sem (fun i => i + 1) x ns k t := by
  induction k using Nat.strongRecOn generalizing t with
  | _ k ih =>
    have hn : ns[k]? = some ns[k] := List.getElem?_eq_getElem hk
    obtain ⟨hc, h1, h2⟩ := wf2_class hw hn
    have st := fun t => h.step t k _ hn
    have kp := h.kept k _ hn
    rw [sem_den hn hw, den_inf]
    generalize ns[k] = nd at *
    have L : leafB nd.op = false → ∀ t, (S t nd.l = true ↔ (rows (fun i => i + 1) x ns).getD nd.l (fun _ => False) t) := fun hl t => ih nd.l (h1 hl) (by have := h1 hl; omega) t
    have R : twoB nd.op = true → ∀ t, (S t nd.r = true ↔ (rows (fun i => i + 1) x ns).getD nd.r (fun _ => False) t) := fun hr t => ih nd.r (h2 hr) (by have := h2 hr; omega) t
    rcases hc with hc | hc | hc
    · rcases leaf_is hc with e | e | e | e | e <;> (simp only [e] at st ⊢; rw [st t]; simp [lawB])
    · have L := L (leaf_not_one hc)
      rcases one_is hc with e | e | e | e
      · simp only [e] at st ⊢; rw [st t]; simp [lawB, ← L]
      · simp only [e] at st ⊢; rw [st t]; simp [lawB, ← L]
      · simp only [e, Nat.reduceEqDiff, if_false, if_true] at st ⊢
        have key := until_row (A := fun _ => true) (B := fun t => S t nd.l) (x := fun t => S t k) (fun t => by rw [st t]; simp [lawB]) (fun t => by
          obtain ⟨t', ht, hq⟩ := kp t
          refine ⟨t', ht, ?_⟩
          simp only [keptN, e, if_true] at hq
          simpa using hq) t
        rw [key]
        simp [L]
      · simp only [e, Nat.reduceEqDiff, if_false, if_true] at st ⊢
        have key := until_row (A := fun _ => true) (B := fun t => !S t nd.l) (x := fun t => !S t k) (fun t => by rw [st t]; simp [lawB]) (fun t => by
          obtain ⟨t', ht, hq⟩ := kp t
          refine ⟨t', ht, ?_⟩
          simp only [keptN, e, Nat.reduceEqDiff, if_false, if_true] at hq
          simpa [or_comm] using hq) t
        have key2 : S t k = true ↔ ¬ ∃ s, (!S (t + s) nd.l) = true ∧ ∀ m, m < s → true = true := by rw [← key]; simp
        rw [key2]
        simp [← L]
    · have L := L (two_not_leaf hc)
      have R := R hc
      rcases two_is hc with e | e | e | e
      · simp only [e] at st ⊢; rw [st t]; simp [lawB, ← L, ← R]
      · simp only [e] at st ⊢; rw [st t]; simp [lawB, ← L, ← R]
      · simp only [e, Nat.reduceEqDiff, if_false, if_true] at st ⊢
        have key := until_row (A := fun t => S t nd.l) (B := fun t => S t nd.r) (x := fun t => S t k) (fun t => by rw [st t]; simp [lawB]) (fun t => by
          obtain ⟨t', ht, hq⟩ := kp t
          refine ⟨t', ht, ?_⟩
          simp only [keptN, e, Nat.reduceEqDiff, if_false, if_true] at hq
          simpa using hq) t
        rw [key]
        simp [L, R]
      · simp only [e, Nat.reduceEqDiff, if_false, if_true] at st ⊢
        have key := until_row (A := fun t => !S t nd.l) (B := fun t => !S t nd.r) (x := fun t => !S t k) (fun t => by rw [st t]; simp [lawB]) (fun t => by
          obtain ⟨t', ht, hq⟩ := kp t
          refine ⟨t', ht, ?_⟩
          simp only [keptN, e, Nat.reduceEqDiff, if_false, if_true] at hq
          simpa [or_comm] using hq) t
        have key2 : S t k = true ↔ ¬ ∃ s, (!S (t + s) nd.r) = true ∧ ∀ m, m < s → (!S (t + m) nd.l) = true := by rw [← key]; simp
        rw [key2]
        constructor
        · intro h s
          rw [← R]
          cases hr : S (t + s) nd.r with
          | true => exact Or.inl rfl
          | false =>
            refine Or.inr (Classical.byContradiction fun hn => h ⟨s, by simp [hr], fun m hm => ?_⟩)
            cases hl : S (t + m) nd.l with
            | false => rfl
            | true => exact absurd ⟨m, hm, (L _).1 hl⟩ hn
        · rintro h ⟨s, h3, h4⟩
          rcases h s with h5 | ⟨m, hm, h5⟩
          · rw [(R _).2 h5] at h3; simp at h3
          · have := h4 m hm; rw [(L _).2 h5] at this; simp at this

/-- The truth of a word is a row that keeps every promise. -/
theorem erow_truth {ns : List Nd} (hw : Wf2 ns) (x : Nat → Nat) : ∃ S : Nat → Nat → Bool, (∀ t k, S t k = true ↔ sem (fun i => i + 1) x ns k t) ∧ ERow ns x S := by
  refine ⟨fun t k => @decide _ (Classical.propDecidable (sem (fun i => i + 1) x ns k t)), fun t k => by simp, ?_, ?_⟩
  · intro t k nd hn
    obtain ⟨hc, h1, h2⟩ := wf2_class hw hn
    have e0 := sem_den (nx := fun i => i + 1) (lt := x) hn hw t
    have e1 := sem_den (nx := fun i => i + 1) (lt := x) hn hw (t + 1)
    rw [den_inf] at e0 e1
    rw [Bool.eq_iff_iff]
    simp only [decide_eq_true_eq]
    rw [e0]
    have fx : ∀ (P Q : Nat → Prop), (∃ s, Q (t + s) ∧ ∀ m, m < s → P (t + m)) ↔ Q t ∨ (P t ∧ ∃ s, Q (t + 1 + s) ∧ ∀ m, m < s → P (t + 1 + m)) := by
      intro P Q
      constructor
      · rintro ⟨s, h3, h4⟩
        cases s with
        | zero => exact Or.inl h3
        | succ s => exact Or.inr ⟨h4 0 (by omega), s, by rw [show t + 1 + s = t + (s + 1) by omega]; exact h3, fun m hm => by rw [show t + 1 + m = t + (m + 1) by omega]; exact h4 (m + 1) (by omega)⟩
      · rintro (h3 | ⟨h3, s, h4, h5⟩)
        · exact ⟨0, h3, fun m hm => by omega⟩
        · refine ⟨s + 1, by rw [show t + (s + 1) = t + 1 + s by omega]; exact h4, fun m hm => ?_⟩
          cases m with
          | zero => exact h3
          | succ m => rw [show t + (m + 1) = t + 1 + m by omega]; exact h5 m (by omega)
    have ga : ∀ (P : Nat → Prop), (∀ s, P (t + s)) ↔ P t ∧ ∀ s, P (t + 1 + s) := by
      intro P
      constructor
      · intro h; exact ⟨h 0, fun s => by rw [show t + 1 + s = t + (s + 1) by omega]; exact h _⟩
      · rintro ⟨h, h'⟩ s
        cases s with
        | zero => exact h
        | succ s => rw [show t + (s + 1) = t + 1 + s by omega]; exact h' s
    have fa : ∀ (P : Nat → Prop), (∃ s, P (t + s)) ↔ P t ∨ ∃ s, P (t + 1 + s) := by
      intro P
      constructor
      · rintro ⟨s, h⟩
        cases s with
        | zero => exact Or.inl h
        | succ s => exact Or.inr ⟨s, by rw [show t + 1 + s = t + (s + 1) by omega]; exact h⟩
      · rintro (h | ⟨s, h⟩)
        · exact ⟨0, h⟩
        · exact ⟨s + 1, by rw [show t + (s + 1) = t + 1 + s by omega]; exact h⟩
    have ra : ∀ (P Q : Nat → Prop), (∀ s, Q (t + s) ∨ ∃ m, m < s ∧ P (t + m)) ↔ Q t ∧ (P t ∨ ∀ s, Q (t + 1 + s) ∨ ∃ m, m < s ∧ P (t + 1 + m)) := by
      intro P Q
      constructor
      · intro h
        refine ⟨(h 0).resolve_right (fun ⟨m, hm, _⟩ => by omega), ?_⟩
        by_cases hp : P t
        · exact Or.inl hp
        · refine Or.inr fun s => ?_
          rcases h (s + 1) with h3 | ⟨m, hm, h3⟩
          · exact Or.inl (by rw [show t + 1 + s = t + (s + 1) by omega]; exact h3)
          · cases m with
            | zero => exact absurd h3 hp
            | succ m => exact Or.inr ⟨m, by omega, by rw [show t + 1 + m = t + (m + 1) by omega]; exact h3⟩
      · rintro ⟨hq, h⟩ s
        cases s with
        | zero => exact Or.inl hq
        | succ s =>
          rcases h with hp | h
          · exact Or.inr ⟨0, by omega, hp⟩
          · rcases h s with h3 | ⟨m, hm, h3⟩
            · exact Or.inl (by rw [show t + (s + 1) = t + 1 + s by omega]; exact h3)
            · exact Or.inr ⟨m + 1, by omega, by rw [show t + (m + 1) = t + 1 + m by omega]; exact h3⟩
    rcases hc with hc | hc | hc
    · rcases leaf_is hc with e | e | e | e | e <;> simp [e, lawB]
    · rcases one_is hc with e | e | e | e
      · simp only [e, lawB, Nat.reduceEqDiff, if_false, if_true, Bool.not_eq_true', decide_eq_false_iff_not]
        rfl
      · simp only [e, lawB, Nat.reduceEqDiff, if_false, if_true, decide_eq_true_eq]
        rfl
      · simp only [e, Nat.reduceEqDiff, if_false, if_true] at e1 ⊢
        rw [fa]
        simp only [lawB, Nat.reduceEqDiff, if_false, if_true, Bool.or_eq_true, decide_eq_true_eq, e1]
        rfl
      · simp only [e, Nat.reduceEqDiff, if_false, if_true] at e1 ⊢
        rw [ga]
        simp only [lawB, Nat.reduceEqDiff, if_false, if_true, Bool.and_eq_true, decide_eq_true_eq, e1]
        rfl
    · rcases two_is hc with e | e | e | e
      · simp only [e, lawB, Nat.reduceEqDiff, if_false, if_true, Bool.and_eq_true, decide_eq_true_eq]
        rfl
      · simp only [e, lawB, Nat.reduceEqDiff, if_false, if_true, Bool.or_eq_true, decide_eq_true_eq]
        rfl
      · simp only [e, Nat.reduceEqDiff, if_false, if_true] at e1 ⊢
        rw [fx]
        simp only [lawB, Nat.reduceEqDiff, if_false, if_true, Bool.or_eq_true, Bool.and_eq_true, decide_eq_true_eq, e1]
        rfl
      · simp only [e, Nat.reduceEqDiff, if_false, if_true] at e1 ⊢
        rw [ra]
        simp only [lawB, Nat.reduceEqDiff, if_false, if_true, Bool.or_eq_true, Bool.and_eq_true, decide_eq_true_eq, e1]
        rfl
  · intro k nd hn t
    obtain ⟨hc, h1, h2⟩ := wf2_class hw hn
    have e0 := sem_den (nx := fun i => i + 1) (lt := x) hn hw t
    rw [den_inf] at e0
    unfold keptN
    rcases hc with hc | hc | hc
    · rcases leaf_is hc with e | e | e | e | e <;> exact ⟨t, Nat.le_refl _, by simp [e]⟩
    · rcases one_is hc with e | e | e | e
      · exact ⟨t, Nat.le_refl _, by simp [e]⟩
      · exact ⟨t, Nat.le_refl _, by simp [e]⟩
      · simp only [e, Nat.reduceEqDiff, if_false, if_true] at e0 ⊢
        by_cases hs : sem (fun i => i + 1) x ns k t
        · obtain ⟨s, h3⟩ := e0.1 hs
          refine ⟨t + s, by omega, ?_⟩
          simp only [Bool.or_eq_true, decide_eq_true_eq]
          exact Or.inl h3
        · exact ⟨t, Nat.le_refl _, by simp [hs]⟩
      · simp only [e, Nat.reduceEqDiff, if_false, if_true] at e0 ⊢
        by_cases hs : sem (fun i => i + 1) x ns k t
        · exact ⟨t, Nat.le_refl _, by simp [hs]⟩
        · have : ∃ s, ¬ sem (fun i => i + 1) x ns nd.l (t + s) := Classical.byContradiction fun hn => hs (e0.2 fun s => Classical.byContradiction fun h => hn ⟨s, h⟩)
          obtain ⟨s, h3⟩ := this
          exact ⟨t + s, by omega, by simp [h3]⟩
    · rcases two_is hc with e | e | e | e
      · exact ⟨t, Nat.le_refl _, by simp [e]⟩
      · exact ⟨t, Nat.le_refl _, by simp [e]⟩
      · simp only [e, Nat.reduceEqDiff, if_false, if_true] at e0 ⊢
        by_cases hs : sem (fun i => i + 1) x ns k t
        · obtain ⟨s, h3, _⟩ := e0.1 hs
          refine ⟨t + s, by omega, ?_⟩
          simp only [Bool.or_eq_true, decide_eq_true_eq]
          exact Or.inl h3
        · exact ⟨t, Nat.le_refl _, by simp [hs]⟩
      · simp only [e, Nat.reduceEqDiff, if_false, if_true] at e0 ⊢
        by_cases hs : sem (fun i => i + 1) x ns k t
        · exact ⟨t, Nat.le_refl _, by simp [hs]⟩
        · have : ∃ s, ¬ sem (fun i => i + 1) x ns nd.r (t + s) := Classical.byContradiction fun hn => hs (e0.2 fun s => Classical.byContradiction fun h => hn ⟨s, fun h' => h (Or.inl h')⟩)
          obtain ⟨s, h3⟩ := this
          exact ⟨t + s, by omega, by simp [h3]⟩

end Go.Proofs.Ytjagijohfkffiab

/- Plain mathematics: verdicts, by rows of sets. -/
namespace Go.Proofs.Ytjagijohfkffiab

/-- The endless word begins with u. -/
def Begins (u : List Nat) (x : Nat → Nat) : Prop := ∀ i, i < u.length → x i = u.getD i 0
def Letters (x : Nat → Nat) : Prop := ∀ t, x t < 8

/-- Equal as far as there are nodes. -/
def EqOn (n : Nat) (S T : Nat → Bool) : Prop := ∀ k, k < n → S k = T k

theorem EqOn.refl (n : Nat) (S : Nat → Bool) : EqOn n S S := fun _ _ => rfl
theorem EqOn.symm {n : Nat} {S T : Nat → Bool} (h : EqOn n S T) : EqOn n T S := fun k hk => (h k hk).symm
theorem EqOn.trans {n : Nat} {S T U : Nat → Bool} (h : EqOn n S T) (k : EqOn n T U) : EqOn n S U := fun i hi => (h i hi).trans (k i hi)

theorem wf2_lt {ns : List Nd} (hw : Wf2 ns) {k : Nat} {nd : Nd} (hn : ns[k]? = some nd) : k < ns.length ∧ (nd.l < ns.length) ∧ (nd.r < ns.length) := by
  have hk := (List.getElem?_eq_some_iff.1 hn).1
  rcases hw k nd hn with ⟨_, h1, h2⟩ | ⟨_, h1, h2⟩ | ⟨_, h1, h2⟩ <;> omega

theorem step_congr {ns : List Nd} (hw : Wf2 ns) {x : Nat} {S S' T T' : Nat → Bool} (hS : EqOn ns.length S S') (hT : EqOn ns.length T T') (h : Step ns x S T) : Step ns x S' T' := by
  intro k nd hn
  obtain ⟨h1, h2, h3⟩ := wf2_lt hw hn
  rw [← hS k h1, ← hS nd.l h2, ← hS nd.r h3, ← hT k h1, ← hT nd.l h2]
  exact h k nd hn

/-- The set may begin an endless row that keeps every promise, behind these letters. -/
def chain (ns : List Nd) : List Nat → (Nat → Bool) → Prop
  | [], S => ∃ x S', Letters x ∧ ERow ns x S' ∧ EqOn ns.length (S' 0) S
  | a :: u, S => a < 8 ∧ ∃ T, Step ns a S T ∧ chain ns u T

def consW {α : Type} (a : α) (x : Nat → α) : Nat → α
  | 0 => a
  | t + 1 => x t

theorem erow_cons {ns : List Nd} (hw : Wf2 ns) {x : Nat → Nat} {S' : Nat → Nat → Bool} (h : ERow ns x S') {a : Nat} {S T : Nat → Bool} (hs : Step ns a S T) (hT : EqOn ns.length (S' 0) T) : ERow ns (consW a x) (consW S S') := by
  refine ⟨fun t => ?_, fun k nd hn t => ?_⟩
  · cases t with
    | zero => exact step_congr hw (EqOn.refl _ _) hT.symm hs
    | succ t => exact h.step t
  · obtain ⟨t', ht, hk⟩ := h.kept k nd hn t
    exact ⟨t' + 1, by omega, hk⟩
theorem erow_tail {ns : List Nd} {x : Nat → Nat} {S' : Nat → Nat → Bool} (h : ERow ns x S') : ERow ns (fun t => x (t + 1)) (fun t => S' (t + 1)) := by
  refine ⟨fun t => h.step (t + 1), fun k nd hn t => ?_⟩
  obtain ⟨t', ht, hk⟩ := h.kept k nd hn (t + 1)
  refine ⟨t' - 1, by omega, ?_⟩
  show keptN nd k (S' (t' - 1 + 1)) = true
  rw [show t' - 1 + 1 = t' by omega]; exact hk

theorem chain_iff {ns : List Nd} (hw : Wf2 ns) : ∀ (u : List Nat) (S : Nat → Bool), (chain ns u S ↔ ∃ x S', Letters x ∧ Begins u x ∧ ERow ns x S' ∧ EqOn ns.length (S' 0) S)
  | [], S => by
    constructor
    · rintro ⟨x, S', h1, h2, h3⟩; exact ⟨x, S', h1, fun i hi => by simp at hi, h2, h3⟩
    · rintro ⟨x, S', h1, _, h2, h3⟩; exact ⟨x, S', h1, h2, h3⟩
  | a :: u, S => by
    constructor
    · rintro ⟨ha, T, hs, hc⟩
      obtain ⟨x, S', h1, h2, h3, h4⟩ := (chain_iff hw u T).1 hc
      refine ⟨consW a x, consW S S', fun t => ?_, fun i hi => ?_, erow_cons hw h3 hs h4, EqOn.refl _ _⟩
      · cases t with
        | zero => exact ha
        | succ t => exact h1 t
      · cases i with
        | zero => simp [consW]
        | succ i =>
          have := h2 i (by simpa using hi)
          simpa [consW] using this
    · rintro ⟨x, S', h1, h2, h3, h4⟩
      have hx := h2 0 (by simp)
      simp at hx
      refine ⟨by rw [← hx]; exact h1 0, S' 1, ?_, ?_⟩
      · have := h3.step 0
        rw [hx] at this
        exact step_congr hw h4 (EqOn.refl _ _) this
      · refine (chain_iff hw u (S' 1)).2 ⟨fun t => x (t + 1), fun t => S' (t + 1), fun t => h1 (t + 1), fun i hi => ?_, erow_tail h3, EqOn.refl _ _⟩
        have := h2 (i + 1) (by simpa using hi)
        simpa using this

/-- Some endless word that begins with u makes the formula b. -/
def May (ns : List Nd) (u : List Nat) (b : Bool) : Prop := ∃ x, Letters x ∧ Begins u x ∧ (sem (fun i => i + 1) x ns (ns.length - 1) 0 ↔ b = true)

theorem may_iff {ns : List Nd} (hg : Good ns) (u : List Nat) (b : Bool) : May ns u b ↔ ∃ S : Nat → Bool, S (ns.length - 1) = b ∧ chain ns u S := by
  have hp := hg.pos
  constructor
  · rintro ⟨x, h1, h2, h3⟩
    obtain ⟨S, hS, hr⟩ := erow_truth hg.wf x
    refine ⟨S 0, ?_, (chain_iff hg.wf u (S 0)).2 ⟨x, S, h1, h2, hr, EqOn.refl _ _⟩⟩
    rw [Bool.eq_iff_iff, hS, h3]
  · rintro ⟨S, hb, hc⟩
    obtain ⟨x, S', h1, h2, h3, h4⟩ := (chain_iff hg.wf u S).1 hc
    refine ⟨x, h1, h2, ?_⟩
    rw [← erow_sem hg.wf h3 _ (by omega), h4 _ (by omega), hb]

/-- The verdict, by what may be. -/
def Verdict (ns : List Nd) (u : List Nat) (v : Nat) : Prop := (v = 2 ∧ ¬ May ns u true) ∨ (v = 1 ∧ May ns u true ∧ ¬ May ns u false) ∨ (v = 0 ∧ May ns u true ∧ May ns u false)

theorem verdict_fun {ns : List Nd} {u : List Nat} {v v' : Nat} (h : Verdict ns u v) (h' : Verdict ns u v') : v = v' := by
  rcases h with ⟨rfl, a⟩ | ⟨rfl, a, b⟩ | ⟨rfl, a, b⟩ <;> rcases h' with ⟨rfl, c⟩ | ⟨rfl, c, d⟩ | ⟨rfl, c, d⟩ <;> first | rfl | exact absurd ‹May ns u true› ‹¬ May ns u true› | exact absurd ‹May ns u false› ‹¬ May ns u false›

/-- The document's: TRUE, if it holds of every endless word that begins so; FALSE, if of none. -/
theorem verdict_doc {ns : List Nd} {u : List Nat} (hu : ∀ x ∈ u, x < 8) {v : Nat} (h : Verdict ns u v) :
    (v = 1 ↔ ∀ x, Letters x → Begins u x → sem (fun i => i + 1) x ns (ns.length - 1) 0) ∧ (v = 2 ↔ ∀ x, Letters x → Begins u x → ¬ sem (fun i => i + 1) x ns (ns.length - 1) 0) := by
  have ex : ∃ x, Letters x ∧ Begins u x := ⟨fun i => u.getD i 0, fun t => by
    show u.getD t 0 < 8
    rw [List.getD]
    cases e : u[t]? with
    | none => simp
    | some y => exact hu y (List.mem_of_getElem? e), fun i _ => rfl⟩
  have mt : May ns u true ↔ ∃ x, Letters x ∧ Begins u x ∧ sem (fun i => i + 1) x ns (ns.length - 1) 0 := by simp [May]
  have mf : May ns u false ↔ ∃ x, Letters x ∧ Begins u x ∧ ¬ sem (fun i => i + 1) x ns (ns.length - 1) 0 := by simp [May]
  have a1 : ¬ May ns u true ↔ ∀ x, Letters x → Begins u x → ¬ sem (fun i => i + 1) x ns (ns.length - 1) 0 := by
    rw [mt]
    exact ⟨fun h x h1 h2 h3 => h ⟨x, h1, h2, h3⟩, fun h ⟨x, h1, h2, h3⟩ => h x h1 h2 h3⟩
  have a2 : ¬ May ns u false ↔ ∀ x, Letters x → Begins u x → sem (fun i => i + 1) x ns (ns.length - 1) 0 := by
    rw [mf]
    exact ⟨fun h x h1 h2 => Classical.byContradiction fun h3 => h ⟨x, h1, h2, h3⟩, fun h ⟨x, h1, h2, h3⟩ => h3 (h x h1 h2)⟩
  have a3 : May ns u true ∨ May ns u false := by
    obtain ⟨x, h1, h2⟩ := ex
    by_cases h3 : sem (fun i => i + 1) x ns (ns.length - 1) 0
    · exact Or.inl (mt.2 ⟨x, h1, h2, h3⟩)
    · exact Or.inr (mf.2 ⟨x, h1, h2, h3⟩)
  rw [← a1, ← a2]
  rcases h with ⟨rfl, a⟩ | ⟨rfl, a, b⟩ | ⟨rfl, a, b⟩
  · simp [a, a3.resolve_left a]
  · simp [a, b]
  · simp [a, b]

end Go.Proofs.Ytjagijohfkffiab
