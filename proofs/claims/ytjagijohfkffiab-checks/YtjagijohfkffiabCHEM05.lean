import Derived.Test.YtjagijohfkffiabCHEM02
import Derived.Test.YtjagijohfkffiabCHEM03
import Derived.Test.YtjagijohfkffiabCHEM04
import Derived.Outline

/- Plain mathematics: the program's table, and that it tells what a formula means. -/
namespace Go.Proofs.Ytjagijohfkffiab

/-- A place: its letter, the set of nodes that hold there. -/
def heldAt (ps : List (Nat × Nat)) (i : Nat) : Nat := (ps.getD i (0, 0)).2
def letAt (ps : List (Nat × Nat)) (i : Nat) : Nat := (ps.getD i (0, 0)).1

def newHeld (n : Nd) (k : Nat) (p : Nat × Nat) (N : Nat) : Nat := wth p.2 k (lawB n.op p.1 (p.2.testBit n.l) (p.2.testBit n.r) (N.testBit k) (N.testBit n.l))

/-- From the last place to the first; what the first holds. -/
def sweepL (n : Nd) (k : Nat) (N : Nat) : List (Nat × Nat) → List (Nat × Nat) × Nat
  | [] => ([], N)
  | p :: ps => ((p.1, newHeld n k p (sweepL n k N ps).2) :: (sweepL n k N ps).1, newHeld n k p (sweepL n k N ps).2)

def startL (n : Nd) (k : Nat) (ps : List (Nat × Nat)) : List (Nat × Nat) := ps.map fun p => (p.1, wth p.2 k (lastsB n.op))
def fillL (n : Nd) (k back : Nat) (ps : List (Nat × Nat)) : List (Nat × Nat) :=
  (sweepL n k (heldAt (sweepL n k (heldAt (startL n k ps) back) (startL n k ps)).1 back) (sweepL n k (heldAt (startL n k ps) back) (startL n k ps)).1).1

theorem sweepL_len (n : Nd) (k N : Nat) (ps : List (Nat × Nat)) : (sweepL n k N ps).1.length = ps.length := by
  induction ps with
  | nil => rfl
  | cons p ps ih => simp [sweepL, ih]
theorem startL_len (n : Nd) (k : Nat) (ps : List (Nat × Nat)) : (startL n k ps).length = ps.length := by simp [startL]
theorem fillL_len (n : Nd) (k back : Nat) (ps : List (Nat × Nat)) : (fillL n k back ps).length = ps.length := by
  unfold fillL; rw [sweepL_len, sweepL_len, startL_len]

theorem heldAt_cons (p : Nat × Nat) (ps : List (Nat × Nat)) (i : Nat) : heldAt (p :: ps) (i + 1) = heldAt ps i := by simp [heldAt]
theorem letAt_cons (p : Nat × Nat) (ps : List (Nat × Nat)) (i : Nat) : letAt (p :: ps) (i + 1) = letAt ps i := by simp [letAt]

theorem sweepL_head (n : Nd) (k N : Nat) (ps : List (Nat × Nat)) : (sweepL n k N ps).2 = if 0 < ps.length then heldAt (sweepL n k N ps).1 0 else N := by
  cases ps with
  | nil => rfl
  | cons p ps => simp [sweepL, heldAt]

theorem sweepL_let (n : Nd) (k N : Nat) (ps : List (Nat × Nat)) (i : Nat) : letAt (sweepL n k N ps).1 i = letAt ps i := by
  induction ps generalizing i with
  | nil => rfl
  | cons p ps ih =>
    cases i with
    | zero => simp [sweepL, letAt]
    | succ i => simp only [sweepL]; rw [letAt_cons, letAt_cons]; exact ih i

theorem sweepL_held (n : Nd) (k N : Nat) (ps : List (Nat × Nat)) (i : Nat) (hi : i < ps.length) :
    heldAt (sweepL n k N ps).1 i = newHeld n k (letAt ps i, heldAt ps i) (if i + 1 < ps.length then heldAt (sweepL n k N ps).1 (i + 1) else N) := by
  induction ps generalizing i with
  | nil => simp at hi
  | cons p ps ih =>
    cases i with
    | zero =>
      have e := sweepL_head n k N ps
      simp only [sweepL]
      rw [heldAt_cons, show (if 0 + 1 < (p :: ps).length then heldAt (sweepL n k N ps).1 0 else N) = (sweepL n k N ps).2 by rw [e]; simp]
      simp [heldAt, letAt]
    | succ i =>
      simp only [sweepL]
      rw [heldAt_cons, heldAt_cons, heldAt_cons, letAt_cons, ih i (by simpa using hi)]
      simp

/-- All letters are letters, all sets are sets of eight. -/
def Fine (ps : List (Nat × Nat)) : Prop := ∀ i, letAt ps i < 8 ∧ heldAt ps i < 256

theorem fine_of {ps : List (Nat × Nat)} (h : ∀ p ∈ ps, p.1 < 8 ∧ p.2 < 256) : Fine ps := by
  intro i
  unfold letAt heldAt
  rw [List.getD]
  cases e : ps[i]? with
  | none => simp
  | some p => simpa using h p (List.mem_of_getElem? e)

theorem sweepL_fine {n : Nd} {k N : Nat} {ps : List (Nat × Nat)} (hk : k < 8) (hf : Fine ps) : Fine (sweepL n k N ps).1 := by
  intro i
  rw [sweepL_let]
  refine ⟨(hf i).1, ?_⟩
  by_cases hi : i < ps.length
  · rw [sweepL_held n k N ps i hi]
    exact wth_lt (hf i).2 hk
  · unfold heldAt
    rw [List.getD, List.getElem?_eq_none (by rw [sweepL_len]; omega)]
    simp

theorem start_let (n : Nd) (k : Nat) (ps : List (Nat × Nat)) (i : Nat) : letAt (startL n k ps) i = letAt ps i := by
  simp only [letAt, startL, List.getD, List.getElem?_map]
  cases ps[i]? <;> rfl
theorem start_held (n : Nd) (k : Nat) (ps : List (Nat × Nat)) (i : Nat) (hi : i < ps.length) : heldAt (startL n k ps) i = wth (heldAt ps i) k (lastsB n.op) := by
  simp only [heldAt, startL, List.getD, List.getElem?_map, List.getElem?_eq_getElem hi]
  rfl
theorem start_fine {n : Nd} {k : Nat} {ps : List (Nat × Nat)} (hk : k < 8) (hf : Fine ps) : Fine (startL n k ps) := by
  intro i
  rw [start_let]
  refine ⟨(hf i).1, ?_⟩
  by_cases hi : i < ps.length
  · rw [start_held n k ps i hi]
    exact wth_lt (hf i).2 hk
  · unfold heldAt
    rw [List.getD, List.getElem?_eq_none (by rw [startL_len]; omega)]
    simp

theorem fill_let (n : Nd) (k back : Nat) (ps : List (Nat × Nat)) (i : Nat) : letAt (fillL n k back ps) i = letAt ps i := by
  unfold fillL; rw [sweepL_let, sweepL_let, start_let]
theorem fill_fine {n : Nd} {k back : Nat} {ps : List (Nat × Nat)} (hk : k < 8) (hf : Fine ps) : Fine (fillL n k back ps) :=
  sweepL_fine hk (sweepL_fine hk (start_fine hk hf))

/-- A sweep leaves the other nodes. -/
theorem sweep_other {n : Nd} {k N j : Nat} {ps : List (Nat × Nat)} (hk : k < 8) (hj : j < 8) (hne : j ≠ k) (hf : Fine ps) (i : Nat) (hi : i < ps.length) : (heldAt (sweepL n k N ps).1 i).testBit j = (heldAt ps i).testBit j := by
  rw [sweepL_held n k N ps i hi, newHeld, wth_bit (hf i).2 hk hj, if_neg hne]
theorem sweep_self {n : Nd} {k N : Nat} {ps : List (Nat × Nat)} (hk : k < 8) (hf : Fine ps) (i : Nat) (hi : i < ps.length) :
    (heldAt (sweepL n k N ps).1 i).testBit k = lawB n.op (letAt ps i) ((heldAt ps i).testBit n.l) ((heldAt ps i).testBit n.r) ((if i + 1 < ps.length then heldAt (sweepL n k N ps).1 (i + 1) else N).testBit k) ((if i + 1 < ps.length then heldAt (sweepL n k N ps).1 (i + 1) else N).testBit n.l) := by
  rw [sweepL_held n k N ps i hi, newHeld, wth_bit (hf i).2 hk hk, if_pos rfl]
theorem start_other {n : Nd} {k j : Nat} {ps : List (Nat × Nat)} (hk : k < 8) (hj : j < 8) (hne : j ≠ k) (hf : Fine ps) (i : Nat) (hi : i < ps.length) : (heldAt (startL n k ps) i).testBit j = (heldAt ps i).testBit j := by
  rw [start_held n k ps i hi, wth_bit (hf i).2 hk hj, if_neg hne]
theorem fill_other {n : Nd} {k back j : Nat} {ps : List (Nat × Nat)} (hk : k < 8) (hj : j < 8) (hne : j ≠ k) (hf : Fine ps) (i : Nat) (hi : i < ps.length) : (heldAt (fillL n k back ps) i).testBit j = (heldAt ps i).testBit j := by
  unfold fillL
  rw [sweep_other hk hj hne (sweepL_fine hk (start_fine hk hf)) i (by rw [sweepL_len, startL_len]; exact hi), sweep_other hk hj hne (start_fine hk hf) i (by rw [startL_len]; exact hi), start_other hk hj hne hf i hi]

/-- The table tells what the nodes ns mean. -/
def Tells (n back : Nat) (lt : Nat → Nat) (ns : List Nd) (ps : List (Nat × Nat)) : Prop :=
  ps.length = n ∧ Fine ps ∧ (∀ i, i < n → letAt ps i = lt i) ∧ ∀ i, i < n → ∀ k, k < ns.length → ((heldAt ps i).testBit k = true ↔ sem (lnx n back) lt ns k i)

theorem tells_fill {n back : Nat} {lt : Nat → Nat} {ns : List Nd} {ps : List (Nat × Nat)} (hb : back < n) (h : Tells n back lt ns ps) (nd : Nd) (hm : ns.length < 8)
    (hw1 : leafB nd.op = false → nd.l < ns.length) (hw2 : twoB nd.op = true → nd.r < ns.length) (hop : leafB nd.op = true ∨ oneB nd.op = true ∨ twoB nd.op = true) :
    Tells n back lt (ns ++ [nd]) (fillL nd ns.length back ps) := by
  obtain ⟨hlen, hf, hlet, hbit⟩ := h
  refine ⟨by rw [fillL_len]; exact hlen, fill_fine hm hf, fun i hi => by rw [fill_let]; exact hlet i hi, ?_⟩
  intro i hi k hk
  by_cases hkm : k < ns.length
  · rw [fill_other hm (by omega) (by omega) hf i (by omega), sem_old hkm]
    exact hbit i hi k hkm
  have hk2 : k = ns.length := by simp at hk; omega
  subst hk2
  rw [sem_new]
  -- the three tables
  have f0 := start_fine (n := nd) hm hf
  have l0 := startL_len nd ns.length ps
  have f1 := sweepL_fine (n := nd) (N := heldAt (startL nd ns.length ps) back) hm f0
  have l1 := sweepL_len nd ns.length (heldAt (startL nd ns.length ps) back) (startL nd ns.length ps)
  have o0 : ∀ j, j < ns.length → ∀ i, i < n → (heldAt (startL nd ns.length ps) i).testBit j = (heldAt ps i).testBit j := fun j hj i hi => start_other hm (by omega) (by omega) hf i (by omega)
  have z0 : (heldAt (startL nd ns.length ps) back).testBit ns.length = lastsB nd.op := by rw [start_held _ _ _ _ (by omega), wth_bit (hf _).2 hm hm, if_pos rfl]
  have t0 : ∀ i, letAt (startL nd ns.length ps) i = letAt ps i := start_let _ _ _
  have x1 := fun i (hi : i < n) => sweep_self (n := nd) (N := heldAt (startL nd ns.length ps) back) hm f0 i (by omega)
  have o1 : ∀ j, j < ns.length → ∀ i, i < n → (heldAt (sweepL nd ns.length (heldAt (startL nd ns.length ps) back) (startL nd ns.length ps)).1 i).testBit j = (heldAt ps i).testBit j := fun j hj i hi => (sweep_other hm (by omega) (by omega) f0 i (by omega)).trans (o0 j hj i hi)
  have t1 : ∀ i, letAt (sweepL nd ns.length (heldAt (startL nd ns.length ps) back) (startL nd ns.length ps)).1 i = letAt ps i := fun i => (sweepL_let _ _ _ _ i).trans (t0 i)
  have ef : fillL nd ns.length back ps = (sweepL nd ns.length (heldAt (sweepL nd ns.length (heldAt (startL nd ns.length ps) back) (startL nd ns.length ps)).1 back) (sweepL nd ns.length (heldAt (startL nd ns.length ps) back) (startL nd ns.length ps)).1).1 := rfl
  rw [ef]
  generalize startL nd ns.length ps = p0 at *
  generalize (sweepL nd ns.length (heldAt p0 back) p0).1 = p1 at *
  have x2 := fun i (hi : i < n) => sweep_self (n := nd) (N := heldAt p1 back) hm f1 i (by omega)
  have o2 : ∀ j, j < ns.length → ∀ i, i < n → (heldAt (sweepL nd ns.length (heldAt p1 back) p1).1 i).testBit j = (heldAt ps i).testBit j := fun j hj i hi => (sweep_other hm (by omega) (by omega) f1 i (by omega)).trans (o1 j hj i hi)
  generalize (sweepL nd ns.length (heldAt p1 back) p1).1 = p2 at *
  rw [l0] at l1 x1
  rw [l1] at x2
  rw [hlen] at x1 x2
  -- the rows below
  have B : ∀ j, j < ns.length → ∀ i, i < n → ((heldAt ps i).testBit j = true ↔ (rows (lnx n back) lt ns).getD j (fun _ => False) i) := fun j hj i hi => hbit i hi j hj
  have N2 : ∀ j, j < ns.length → ∀ i, i < n → (if i + 1 < n then heldAt p2 (i + 1) else heldAt p1 back).testBit j = (heldAt ps (lnx n back i)).testBit j := by
    intro j hj i hi
    unfold lnx
    split
    · exact o2 j hj _ (by omega)
    · exact o1 j hj _ hb
  have hL := lnx_lt (i := i) hb
  unfold den
  rcases hop with hop | hop | hop
  · rcases leaf_is hop with e | e | e | e | e
    · simp [e] at x2 ⊢; rw [x2 i hi]; simp [lawB]
    · simp [e] at x2 ⊢; rw [x2 i hi]; simp [lawB]
    · simp [e] at x2 ⊢; rw [x2 i hi, t1, hlet i hi]; simp [lawB]
    · simp [e] at x2 ⊢; rw [x2 i hi, t1, hlet i hi]; simp [lawB]
    · simp [e] at x2 ⊢; rw [x2 i hi, t1, hlet i hi]; simp [lawB]
  · have hl := hw1 (leaf_not_one hop)
    rcases one_is hop with e | e | e | e
    · simp only [e] at x2 ⊢
      rw [x2 i hi, o1 _ hl i hi]
      simp [lawB, ← B _ hl i hi]
    · simp only [e] at x2 ⊢
      rw [x2 i hi, N2 _ hl i hi]
      simp [lawB, ← B _ hl _ hL]
    · -- F
      have key := sweep_until hb (fun _ => true) (fun i => (heldAt ps i).testBit nd.l) (fun i => (heldAt p1 i).testBit ns.length) (fun i => (heldAt p2 i).testBit ns.length)
        (fun i hi => by
          have := x1 i hi
          rw [e, o0 _ hl i hi] at this
          simp only [lawB] at this
          simp only [Nat.reduceEqDiff, if_false, if_true] at this
          rw [this]
          split
          · simp
          · rw [z0, e]; simp [lastsB])
        (fun i hi => by
          have := x2 i hi
          rw [e, o1 _ hl i hi] at this
          simp only [lawB] at this
          simp only [Nat.reduceEqDiff, if_false, if_true] at this
          rw [this]
          split <;> simp) i hi
      simp only [e, Nat.reduceEqDiff, if_false, if_true]
      rw [key]
      unfold UU
      constructor
      · rintro ⟨s, h1, _⟩; exact ⟨s, (B _ hl _ (it_lt hb s i hi)).1 h1⟩
      · rintro ⟨s, h1⟩; exact ⟨s, (B _ hl _ (it_lt hb s i hi)).2 h1, fun _ _ => rfl⟩
    · -- G
      have key := sweep_until hb (fun _ => true) (fun i => !(heldAt ps i).testBit nd.l) (fun i => !(heldAt p1 i).testBit ns.length) (fun i => !(heldAt p2 i).testBit ns.length)
        (fun i hi => by
          have := x1 i hi
          rw [e, o0 _ hl i hi] at this
          simp only [lawB] at this
          simp only [Nat.reduceEqDiff, if_false, if_true] at this
          rw [this]
          split
          · simp
          · rw [z0, e]; simp [lastsB])
        (fun i hi => by
          have := x2 i hi
          rw [e, o1 _ hl i hi] at this
          simp only [lawB] at this
          simp only [Nat.reduceEqDiff, if_false, if_true] at this
          rw [this]
          split <;> simp) i hi
      simp only [e, Nat.reduceEqDiff, if_false, if_true]
      have key2 : (heldAt p2 i).testBit ns.length = true ↔ ¬ UU (lnx n back) (fun _ => true = true) (fun i => (!(heldAt ps i).testBit nd.l) = true) i := by
        rw [← key]; simp
      rw [key2]
      unfold UU
      constructor
      · intro h s
        rw [← B _ hl _ (it_lt hb s i hi)]
        cases hc : (heldAt ps (it (lnx n back) s i)).testBit nd.l with
        | true => rfl
        | false => exact absurd ⟨s, by simp [hc], fun _ _ => rfl⟩ h
      · rintro h ⟨s, h1, _⟩
        have := (B _ hl _ (it_lt hb s i hi)).2 (h s)
        simp [this] at h1
  · have hl := hw1 (two_not_leaf hop)
    have hr := hw2 hop
    rcases two_is hop with e | e | e | e
    · simp only [e] at x2 ⊢
      rw [x2 i hi, o1 _ hl i hi, o1 _ hr i hi]
      simp [lawB, ← B _ hl i hi, ← B _ hr i hi]
    · simp only [e] at x2 ⊢
      rw [x2 i hi, o1 _ hl i hi, o1 _ hr i hi]
      simp [lawB, ← B _ hl i hi, ← B _ hr i hi]
    · -- U
      have key := sweep_until hb (fun i => (heldAt ps i).testBit nd.l) (fun i => (heldAt ps i).testBit nd.r) (fun i => (heldAt p1 i).testBit ns.length) (fun i => (heldAt p2 i).testBit ns.length)
        (fun i hi => by
          have := x1 i hi
          rw [e, o0 _ hl i hi, o0 _ hr i hi] at this
          simp only [lawB] at this
          simp only [Nat.reduceEqDiff, if_false, if_true] at this
          rw [this]
          split
          · rfl
          · rw [z0, e]; simp [lastsB])
        (fun i hi => by
          have := x2 i hi
          rw [e, o1 _ hl i hi, o1 _ hr i hi] at this
          simp only [lawB] at this
          simp only [Nat.reduceEqDiff, if_false, if_true] at this
          rw [this]
          split <;> rfl) i hi
      simp only [e, Nat.reduceEqDiff, if_false, if_true]
      rw [key]
      unfold UU
      constructor
      · rintro ⟨s, h1, h2⟩; exact ⟨s, (B _ hr _ (it_lt hb s i hi)).1 h1, fun m hm => (B _ hl _ (it_lt hb m i hi)).1 (h2 m hm)⟩
      · rintro ⟨s, h1, h2⟩; exact ⟨s, (B _ hr _ (it_lt hb s i hi)).2 h1, fun m hm => (B _ hl _ (it_lt hb m i hi)).2 (h2 m hm)⟩
    · -- R
      have key := sweep_until hb (fun i => !(heldAt ps i).testBit nd.l) (fun i => !(heldAt ps i).testBit nd.r) (fun i => !(heldAt p1 i).testBit ns.length) (fun i => !(heldAt p2 i).testBit ns.length)
        (fun i hi => by
          have := x1 i hi
          rw [e, o0 _ hl i hi, o0 _ hr i hi] at this
          simp only [lawB] at this
          simp only [Nat.reduceEqDiff, if_false, if_true] at this
          rw [this]
          split
          · simp
          · rw [z0, e]; simp [lastsB])
        (fun i hi => by
          have := x2 i hi
          rw [e, o1 _ hl i hi, o1 _ hr i hi] at this
          simp only [lawB] at this
          simp only [Nat.reduceEqDiff, if_false, if_true] at this
          rw [this]
          split <;> simp) i hi
      simp only [e, Nat.reduceEqDiff, if_false, if_true]
      have key2 : (heldAt p2 i).testBit ns.length = true ↔ ¬ UU (lnx n back) (fun i => (!(heldAt ps i).testBit nd.l) = true) (fun i => (!(heldAt ps i).testBit nd.r) = true) i := by
        rw [← key]; simp
      rw [key2]
      unfold UU
      constructor
      · intro h s
        cases hc : (heldAt ps (it (lnx n back) s i)).testBit nd.r with
        | true => exact Or.inl ((B _ hr _ (it_lt hb s i hi)).1 hc)
        | false =>
          refine Or.inr ?_
          refine Classical.byContradiction fun hn => h ⟨s, by simp [hc], fun m hm => ?_⟩
          cases hd : (heldAt ps (it (lnx n back) m i)).testBit nd.l with
          | false => simp [hd]
          | true => exact absurd ⟨m, hm, (B _ hl _ (it_lt hb m i hi)).1 hd⟩ hn
      · rintro h ⟨s, h1, h2⟩
        rcases h s with h3 | ⟨m, hm, h3⟩
        · have := (B _ hr _ (it_lt hb s i hi)).2 h3
          simp [this] at h1
        · have h4 := h2 m hm
          have := (B _ hl _ (it_lt hb m i hi)).2 h3
          simp [this] at h4

end Go.Proofs.Ytjagijohfkffiab

/- Plain mathematics: what a text's nodes are like; the table of a whole formula. -/
namespace Go.Proofs.Ytjagijohfkffiab

def Wf2 (ns : List Nd) : Prop := ∀ (i : Nat) (n : Nd), ns[i]? = some n → (leafB n.op = true ∧ n.l = 0 ∧ n.r = 0) ∨ (oneB n.op = true ∧ n.l < i ∧ n.r = 0) ∨ (twoB n.op = true ∧ n.l < i ∧ n.r < i)

theorem Wf2.snoc {ns : List Nd} (h : Wf2 ns) (n : Nd) (hn : (leafB n.op = true ∧ n.l = 0 ∧ n.r = 0) ∨ (oneB n.op = true ∧ n.l < ns.length ∧ n.r = 0) ∨ (twoB n.op = true ∧ n.l < ns.length ∧ n.r < ns.length)) : Wf2 (ns ++ [n]) := by
  intro i m hm
  by_cases hi : i < ns.length
  · rw [List.getElem?_append_left hi] at hm
    exact h i m hm
  · rw [List.getElem?_append_right (by omega)] at hm
    have : i = ns.length := by
      have := (List.getElem?_eq_some_iff.1 hm).1
      simp at this; omega
    subst this
    simp at hm
    subst hm
    exact hn

theorem ps_wf2 : ∀ (k : Nat) (s : ByteArray) (a : Nat) (ns : List Nd) (a' : Nat) (ns' : List Nd), ps k s a ns = some (a', ns') → Wf2 ns → Wf2 ns' ∧ ∃ ms, ns' = ns ++ ms
  | 0, _, _, _, _, _, h, _ => by simp [ps] at h
  | k + 1, s, a, ns, a', ns', h, hw => by
    by_cases b1 : leafB (bt s a) = true
    · rw [ps_leaf b1] at h
      simp only [Option.some.injEq, Prod.mk.injEq] at h
      obtain ⟨rfl, rfl⟩ := h
      exact ⟨hw.snoc _ (Or.inl ⟨b1, rfl, rfl⟩), _, rfl⟩
    · rw [Bool.not_eq_true] at b1
      by_cases b2 : oneB (bt s a) = true
      · rw [ps_one b2] at h
        unfold ps1 at h
        cases e : ps k s (a + 1) ns with
        | none => rw [e] at h; simp at h
        | some x =>
          obtain ⟨a1, n1⟩ := x
          rw [e] at h
          simp only [Option.some.injEq, Prod.mk.injEq] at h
          obtain ⟨rfl, rfl⟩ := h
          have g := ps_grows k s _ _ _ _ e
          obtain ⟨h1, ms, h2⟩ := ps_wf2 k s _ _ _ _ e hw
          exact ⟨h1.snoc _ (Or.inr (Or.inl ⟨b2, by simp only; omega, rfl⟩)), _, by rw [h2, List.append_assoc]⟩
      · rw [Bool.not_eq_true] at b2
        by_cases b3 : bt s a = 40
        · rw [ps_two b3] at h
          unfold ps2 at h
          cases e : ps k s (a + 1) ns with
          | none => rw [e] at h; simp at h
          | some x =>
            obtain ⟨a1, n1⟩ := x
            rw [e] at h
            simp only at h
            by_cases b4 : twoB (bt s a1) = true
            · rw [if_pos b4] at h
              cases e2 : ps k s (a1 + 1) n1 with
              | none => rw [e2] at h; simp at h
              | some x =>
                obtain ⟨a2, n2⟩ := x
                rw [e2] at h
                simp only at h
                by_cases b5 : bt s a2 = 41
                · rw [if_pos b5] at h
                  simp only [Option.some.injEq, Prod.mk.injEq] at h
                  obtain ⟨rfl, rfl⟩ := h
                  have g1 := ps_grows k s _ _ _ _ e
                  have g2 := ps_grows k s _ _ _ _ e2
                  obtain ⟨h1, ms1, q1⟩ := ps_wf2 k s _ _ _ _ e hw
                  obtain ⟨h2, ms2, q2⟩ := ps_wf2 k s _ _ _ _ e2 h1
                  exact ⟨h2.snoc _ (Or.inr (Or.inr ⟨b4, by simp only; omega, by simp only; omega⟩)), _, by rw [q2, q1, List.append_assoc, List.append_assoc]⟩
                · rw [if_neg b5] at h; simp at h
            · rw [if_neg b4] at h; simp at h
        · rw [ps_no b1 b2 b3] at h; simp at h

/-- The nodes of a formula that is one. -/
structure Good (ns : List Nd) : Prop where
  pos : 0 < ns.length
  le : ns.length ≤ 8
  wf : Wf2 ns

theorem parse_good {s : ByteArray} (h : (parseOf s).1 = 0) : Good (parseOf s).2 := by
  unfold parseOf at h ⊢
  split at h
  · simp at h
  · rename_i h1
    rw [if_neg h1]
    cases e : ps 25 s 0 [] with
    | none => rw [e] at h; simp at h
    | some x =>
      obtain ⟨a, ns⟩ := x
      rw [e] at h
      simp only at h ⊢
      split at h
      · rename_i h2
        rw [if_pos h2]
        split at h
        · simp at h
        · rename_i h3
          rw [if_neg h3]
          have g := ps_grows _ _ _ _ _ _ e
          have w := (ps_wf2 _ _ _ _ _ _ e (by intro i n h; simp at h)).1
          have g2 := g.2.2.2
          simp at g2
          exact ⟨g2, Nat.not_lt.1 h3, w⟩
      · simp at h

theorem Wf2.small {ns : List Nd} (h : Wf2 ns) (hl : ns.length ≤ 8) {i : Nat} {n : Nd} (hn : ns[i]? = some n) : n.l < 8 ∧ n.r < 8 := by
  have hi := (List.getElem?_eq_some_iff.1 hn).1
  rcases h i n hn with ⟨_, h1, h2⟩ | ⟨_, h1, h2⟩ | ⟨_, h1, h2⟩ <;> omega

def ndAt (ns : List Nd) (k : Nat) : Nd := ns.getD k ⟨0, 0, 0⟩

/-- The table behind k nodes. -/
def tabTo (back : Nat) (ns : List Nd) (ps : List (Nat × Nat)) : Nat → List (Nat × Nat)
  | 0 => ps
  | k + 1 => fillL (ndAt ns k) k back (tabTo back ns ps k)

theorem tabTo_tells {back : Nat} {ns : List Nd} {ps : List (Nat × Nat)} {lt : Nat → Nat} (hb : back < ps.length) (hf : Fine ps) (hl : ∀ i, i < ps.length → letAt ps i = lt i) (hg : Wf2 ns) (h8 : ns.length ≤ 8) (k : Nat) (hk : k ≤ ns.length) :
    Tells ps.length back lt (ns.take k) (tabTo back ns ps k) := by
  induction k with
  | zero => exact ⟨rfl, hf, hl, fun i hi j hj => by simp at hj⟩
  | succ k ih =>
    have h1 := ih (by omega)
    have e : ns.take (k + 1) = ns.take k ++ [ndAt ns k] := by
      rw [List.take_succ_eq_append_getElem (by omega)]
      simp [ndAt, List.getD, List.getElem?_eq_getElem (show k < ns.length by omega)]
    have hn : ns[k]? = some (ndAt ns k) := by simp [ndAt, List.getD, List.getElem?_eq_getElem (show k < ns.length by omega)]
    have hlen : (ns.take k).length = k := by simp; omega
    rw [e]
    have key := tells_fill hb h1 (ndAt ns k) (by omega)
    rw [hlen] at key
    refine key ?_ ?_ ?_
    · intro h2
      rcases hg k _ hn with ⟨h3, _⟩ | ⟨_, h3, _⟩ | ⟨_, h3, _⟩
      · rw [h2] at h3; simp at h3
      · exact h3
      · exact h3
    · intro h2
      rcases hg k _ hn with ⟨h3, _⟩ | ⟨h3, _⟩ | ⟨_, _, h3⟩
      · rw [leaf_not_two h3] at h2; simp at h2
      · rw [one_not_two h3] at h2; simp at h2
      · exact h3
    · rcases hg k _ hn with ⟨h3, _⟩ | ⟨h3, _⟩ | ⟨h3, _⟩
      · exact Or.inl h3
      · exact Or.inr (Or.inl h3)
      · exact Or.inr (Or.inr h3)

/-- What the program's Holds answers of letters xs (stem and loop). -/
def holdsB (back : Nat) (ns : List Nd) (xs : List Nat) : Bool := (heldAt (tabTo back ns (xs.map fun x => (x, 0)) ns.length) 0).testBit (ns.length - 1)

def ltOf (xs : List Nat) (i : Nat) : Nat := xs.getD i 0

theorem holdsB_sem {back : Nat} {ns : List Nd} {xs : List Nat} (hg : Good ns) (hb : back < xs.length) (hx : ∀ x ∈ xs, x < 8) : holdsB back ns xs = true ↔ sem (lnx xs.length back) (ltOf xs) ns (ns.length - 1) 0 := by
  have hf : Fine (xs.map fun x => (x, 0)) := fine_of (by intro p hp; simp at hp; obtain ⟨x, hm, rfl⟩ := hp; exact ⟨hx x hm, by show 0 < 256; decide⟩)
  have ht := tabTo_tells (back := back) (ns := ns) (ps := xs.map fun x => (x, 0)) (lt := ltOf xs) (by simpa using hb) hf (by
    intro i hi
    simp at hi
    simp [letAt, ltOf, List.getD, List.getElem?_eq_getElem hi]) hg.wf hg.le ns.length (Nat.le_refl _)
  rw [List.take_length, List.length_map] at ht
  have := ht.2.2.2 0 (by omega) (ns.length - 1) (by have := hg.pos; omega)
  exact this

end Go.Proofs.Ytjagijohfkffiab

/- The walks of Waits, End, before, settled. -/
namespace Go.Proofs.Ytjagijohfkffiab
open Go.RowKit
set_option linter.unusedVariables false

/-- The nodes of a formula in memory. -/
structure NdM (w : World) (gn : Nat) (ns : List Nd) : Prop where
  lt : gn < w.heap.size
  c0 : ∀ i, i < ns.length → w.cell? ⟨gn, i * 3, none⟩ = some (.int .u8 (ndAt ns i).op)
  c1 : ∀ i, i < ns.length → w.cell? ⟨gn, i * 3 + 1, none⟩ = some (.int .i64 (ndAt ns i).l)
  c2 : ∀ i, i < ns.length → w.cell? ⟨gn, i * 3 + 2, none⟩ = some (.int .i64 (ndAt ns i).r)
theorem NdM.below {B : Nat} {w w' : World} {gn : Nat} {ns : List Nd} (h : NdM w gn ns) (hb : Below B w w') (hB : gn < B) : NdM w' gn ns :=
  ⟨Nat.lt_of_lt_of_le h.lt hb.size, fun i hi => (hb.cell (p := ⟨gn, i * 3, none⟩) hB).trans (h.c0 i hi), fun i hi => (hb.cell (p := ⟨gn, i * 3 + 1, none⟩) hB).trans (h.c1 i hi), fun i hi => (hb.cell (p := ⟨gn, i * 3 + 2, none⟩) hB).trans (h.c2 i hi)⟩

def waitsB (op : Nat) : Bool := op == 70 || op == 85 || lastsB op
def endN (n : Nd) : Nat := if n.op = 85 ∨ n.op = 82 then n.r else n.l

theorem waits_any (n : Nd) (w : World) : Calls Try.prog 65 #[ndV n] w fun e w' => e = .returned (.bool (waitsB n.op)) ∧ Below w.heap.size w w' := by
  obtain ⟨op, l, r⟩ := n
  have LW := fun W => lasts_any ⟨op, l, r⟩ W
  unfold ndV at *
  dsimp only at *
  by_cases h1 : op = 70
  · subst h1
    clear LW
    go_enter Try.func65, Try.ntmps65
    go_wp2_with fail
    go_ret
    exact ⟨rfl, (Below.refl _ _).alloc (Nat.le_refl _) _⟩
  by_cases h2 : op = 85
  · subst h2
    clear LW
    go_enter Try.func65, Try.ntmps65
    go_wp2_with fail
    go_ret
    exact ⟨rfl, (Below.refl _ _).alloc (Nat.le_refl _) _⟩
  have k1 : ((op : Int) == 70) = false := beq_eq_false_iff_ne.2 (by omega)
  have k2 : ((op : Int) == 85) = false := beq_eq_false_iff_ne.2 (by omega)
  have E : Hid (waitsB op = lastsB op) := hid (by simp [waitsB, h1, h2])
  go_enter Try.func65, Try.ntmps65
  go_wp2_with fail
  refine (LW _).mono ?_
  rintro e w' ⟨rfl, hb⟩
  go_wp2_with fail
  go_ret
  exact ⟨by rw [E.out]; rfl, ((Below.refl _ _).alloc (Nat.le_refl _) _).trans (hb.mono (by simp))⟩

theorem end_any (n : Nd) (w : World) : Calls Try.prog 107 #[ndV n] w fun e w' => e = .returned (.int .i64 (endN n : Nat)) ∧ Below w.heap.size w w' := by
  obtain ⟨op, l, r⟩ := n
  unfold ndV
  dsimp only at *
  by_cases h1 : op = 85
  · subst h1
    go_enter Try.func107, Try.ntmps107
    go_wp2_with fail
    go_ret
    exact ⟨by simp [endN], (Below.refl _ _).alloc (Nat.le_refl _) _⟩
  by_cases h2 : op = 82
  · subst h2
    go_enter Try.func107, Try.ntmps107
    go_wp2_with fail
    go_ret
    exact ⟨by simp [endN], (Below.refl _ _).alloc (Nat.le_refl _) _⟩
  have k1 : ((op : Int) == 85) = false := beq_eq_false_iff_ne.2 (by omega)
  have k2 : ((op : Int) == 82) = false := beq_eq_false_iff_ne.2 (by omega)
  have E : Hid (endN ⟨op, l, r⟩ = l) := hid (by simp [endN, h1, h2])
  go_enter Try.func107, Try.ntmps107
  go_wp2_with fail
  go_ret
  exact ⟨by rw [E.out]; rfl, (Below.refl _ _).alloc (Nat.le_refl _) _⟩

/-- The view before, node by node. -/
def befTo (ns : List Nd) (x N : Nat) : Nat → Nat
  | 0 => 0
  | k + 1 => wth (befTo ns x N k) k (lawB (ndAt ns k).op x ((befTo ns x N k).testBit (ndAt ns k).l) ((befTo ns x N k).testBit (ndAt ns k).r) (N.testBit k) (N.testBit (ndAt ns k).l))
def bef (ns : List Nd) (x N : Nat) : Nat := befTo ns x N ns.length
theorem befTo_lt (ns : List Nd) (x N : Nat) : ∀ k, k ≤ 8 → befTo ns x N k < 256
  | 0, _ => by simp [befTo]
  | k + 1, h => wth_lt (befTo_lt ns x N k (by omega)) (by omega)
theorem bef_lt {ns : List Nd} (h : ns.length ≤ 8) (x N : Nat) : bef ns x N < 256 := befTo_lt ns x N _ h
theorem ndAt_gets {ns : List Nd} {k : Nat} (h : k < ns.length) : ns[k]? = some (ndAt ns k) := by simp [ndAt, List.getD, List.getElem?_eq_getElem h]

set_option maxHeartbeats 1600000 in
set_option maxRecDepth 100000 in
theorem before_any (gn m ncap x N : Nat) (ns : List Nd) (w : World) (hm : NdM w gn ns) (hg : Good ns) (hlm : ns.length = m) (hx : x < 8) (hN : N < 256) :
    Calls Try.prog 64 #[.slice (some ⟨gn, 0, none⟩) m ncap, .int .i64 x, .int .i64 N] w fun e w' => e = .returned (.int .u8 (bef ns x N : Nat)) ∧ Below w.heap.size w w' := by
  have hle := hg.le
  have HG := hid hg
  have HM := hid hm
  have hgn := hm.lt
  have HE : Hid (befTo ns x N m = bef ns x N) := hid (by rw [← hlm]; rfl)
  have HL := hid hlm
  have hm8 : m ≤ 8 := by omega
  clear hm hg hle hlm
  go_enter Try.func64, Try.ntmps64
  go_wp2_with fail
  go_loopw [7, 13] (fun h i wq => ∃ k : Nat, k ≤ m ∧ i = .int .i64 k ∧ h = .int .i64 (befTo ns x N k : Nat) ∧ Below w.heap.size w wq) (fun _ i _ => m - (intOf i).toNat)
  case atStart => exact ⟨0, Nat.zero_le _, rfl, rfl, Below.refl _ _⟩
  case round =>
    obtain ⟨k, hk, rfl, rfl, hb⟩ := hrel
    by_cases hlk : k < m
    · have hk8 : k < 8 := by omega
      have hS := befTo_lt ns x N k (by omega)
      obtain ⟨h1, h2⟩ := Wf2.small HG.out.wf HG.out.le (ndAt_gets (ns := ns) (k := k) (by rw [HL.out]; exact hlk))
      have n0 := (hb.cell (p := ⟨gn, k * 3, none⟩) hgn).trans (HM.out.c0 k (by rw [HL.out]; exact hlk))
      have n1 := (hb.cell (p := ⟨gn, k * 3 + 1, none⟩) hgn).trans (HM.out.c1 k (by rw [HL.out]; exact hlk))
      have n2 := (hb.cell (p := ⟨gn, k * 3 + 2, none⟩) hgn).trans (HM.out.c2 k (by rw [HL.out]; exact hlk))
      have LW := fun W => law_any (ndAt ns k) k x (befTo ns x N k) N W h1 h2 hk8 hx hS hN
      have HS : Hid (befTo ns x N (k + 1) = wth (befTo ns x N k) k (lawB (ndAt ns k).op x ((befTo ns x N k).testBit (ndAt ns k).l) ((befTo ns x N k).testBit (ndAt ns k).r) (N.testBit k) (N.testBit (ndAt ns k).l))) := hid rfl
      unfold ndV at LW
      generalize ndAt ns k = nd at *
      generalize befTo ns x N k = S at *
      go_wp2_with fail
      refine (LW _).mono ?_
      rintro e w2 ⟨rfl, hb2⟩
      clear LW n0 n1 n2
      generalize lawB nd.op x (S.testBit nd.l) (S.testBit nd.r) (N.testBit k) (N.testBit nd.l) = v at *
      go_wp2_with fail
      refine (with_any S k v _ hS hk8).mono ?_
      rintro e w3 ⟨rfl, rfl⟩
      go_wp2_with fail
      go_roundw
      case rel => exact ⟨k + 1, by omega, by go_num, by rw [HS.out], (hb.alloc hb.size _).trans (hb2.mono (by have := hb.size; simp; omega))⟩
      case measure => simp [intOf]; omega
    · obtain rfl : k = m := by omega
      have hS := befTo_lt ns x N k (by omega)
      have e1 : IntKind.u8.wrap ((befTo ns x N k : Nat) : Int) = ((befTo ns x N k : Nat) : Int) := by
        rw [IntKind.wrap_u8]; omega
      go_wp2_with fail
      go_ret
      exact ⟨by rw [← HE.out]; rfl, hb⟩

end Go.Proofs.Ytjagijohfkffiab
