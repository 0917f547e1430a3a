import Derived.Test.YtjagijohfkffiabFOUM01
import Derived.Test.YtjagijohfkffiabFOUM02

/- Plain mathematics: the program's table, and that it tells what a formula means. -/
namespace Go.Proofs.Ytjagijohfkffiab

/-- A place: its letter, the set of nodes that hold there. -/
def heldAt (ps : List (Nat × Nat)) (i : Nat) : Nat := (ps.getD i (0, 0)).2
def letAt (ps : List (Nat × Nat)) (i : Nat) : Nat := (ps.getD i (0, 0)).1

def newHeld (n : Nd) (k : Nat) (p : Nat × Nat) (N : Nat) : Nat := wth p.2 k (lawB n.op p.1 (p.2.testBit n.l) (p.2.testBit n.r) (N.testBit k) (N.testBit n.l))

/-- From the last place to the first; what the first holds. -/
def sweepL (n : Nd) (k : Nat) (N : Nat) : List (Nat × Nat) → List (Nat × Nat) × Nat
  | [] => ([], N)
  | p :: ps => ((p.1, newHeld n k p (sweepL n k N ps).2) :: (sweepL n k N ps).1, newHeld n k p (sweepL n k N ps).2)

def startL (n : Nd) (k : Nat) (ps : List (Nat × Nat)) : List (Nat × Nat) := ps.map fun p => (p.1, wth p.2 k (lastsB n.op))
def fillL (n : Nd) (k back : Nat) (ps : List (Nat × Nat)) : List (Nat × Nat) :=
  (sweepL n k (heldAt (sweepL n k (heldAt (startL n k ps) back) (startL n k ps)).1 back) (sweepL n k (heldAt (startL n k ps) back) (startL n k ps)).1).1

theorem sweepL_len (n : Nd) (k N : Nat) (ps : List (Nat × Nat)) : (sweepL n k N ps).1.length = ps.length := by
  induction ps with
  | nil => rfl
  | cons p ps ih => simp [sweepL, ih]
theorem startL_len (n : Nd) (k : Nat) (ps : List (Nat × Nat)) : (startL n k ps).length = ps.length := by simp [startL]
theorem fillL_len (n : Nd) (k back : Nat) (ps : List (Nat × Nat)) : (fillL n k back ps).length = ps.length := by
  unfold fillL; rw [sweepL_len, sweepL_len, startL_len]

theorem heldAt_cons (p : Nat × Nat) (ps : List (Nat × Nat)) (i : Nat) : heldAt (p :: ps) (i + 1) = heldAt ps i := by simp [heldAt]
theorem letAt_cons (p : Nat × Nat) (ps : List (Nat × Nat)) (i : Nat) : letAt (p :: ps) (i + 1) = letAt ps i := by simp [letAt]

theorem sweepL_head (n : Nd) (k N : Nat) (ps : List (Nat × Nat)) : (sweepL n k N ps).2 = if 0 < ps.length then heldAt (sweepL n k N ps).1 0 else N := by
  cases ps with
  | nil => rfl
  | cons p ps => simp [sweepL, heldAt]

theorem sweepL_let (n : Nd) (k N : Nat) (ps : List (Nat × Nat)) (i : Nat) : letAt (sweepL n k N ps).1 i = letAt ps i := by
  induction ps generalizing i with
  | nil => rfl
  | cons p ps ih =>
    cases i with
    | zero => simp [sweepL, letAt]
    | succ i => simp only [sweepL]; rw [letAt_cons, letAt_cons]; exact ih i

theorem sweepL_held (n : Nd) (k N : Nat) (ps : List (Nat × Nat)) (i : Nat) (hi : i < ps.length) :
    heldAt (sweepL n k N ps).1 i = newHeld n k (letAt ps i, heldAt ps i) (if i + 1 < ps.length then heldAt (sweepL n k N ps).1 (i + 1) else N) := by
  induction ps generalizing i with
  | nil => simp at hi
  | cons p ps ih =>
    cases i with
    | zero =>
      have e := sweepL_head n k N ps
      simp only [sweepL]
      rw [heldAt_cons, show (if 0 + 1 < (p :: ps).length then heldAt (sweepL n k N ps).1 0 else N) = (sweepL n k N ps).2 by rw [e]; simp]
      simp [heldAt, letAt]
    | succ i =>
      simp only [sweepL]
      rw [heldAt_cons, heldAt_cons, heldAt_cons, letAt_cons, ih i (by simpa using hi)]
      simp

/-- All letters are letters, all sets are sets of eight. -/
def Fine (ps : List (Nat × Nat)) : Prop := ∀ i, letAt ps i < 8 ∧ heldAt ps i < 256

theorem fine_of {ps : List (Nat × Nat)} (h : ∀ p ∈ ps, p.1 < 8 ∧ p.2 < 256) : Fine ps := by
  intro i
  unfold letAt heldAt
  rw [List.getD]
  cases e : ps[i]? with
  | none => simp
  | some p => simpa using h p (List.mem_of_getElem? e)

theorem sweepL_fine {n : Nd} {k N : Nat} {ps : List (Nat × Nat)} (hk : k < 8) (hf : Fine ps) : Fine (sweepL n k N ps).1 := by
  intro i
  rw [sweepL_let]
  refine ⟨(hf i).1, ?_⟩
  by_cases hi : i < ps.length
  · rw [sweepL_held n k N ps i hi]
    exact wth_lt (hf i).2 hk
  · unfold heldAt
    rw [List.getD, List.getElem?_eq_none (by rw [sweepL_len]; omega)]
    simp

theorem start_let (n : Nd) (k : Nat) (ps : List (Nat × Nat)) (i : Nat) : letAt (startL n k ps) i = letAt ps i := by
  simp only [letAt, startL, List.getD, List.getElem?_map]
  cases ps[i]? <;> rfl
theorem start_held (n : Nd) (k : Nat) (ps : List (Nat × Nat)) (i : Nat) (hi : i < ps.length) : heldAt (startL n k ps) i = wth (heldAt ps i) k (lastsB n.op) := by
  simp only [heldAt, startL, List.getD, List.getElem?_map, List.getElem?_eq_getElem hi]
  rfl
theorem start_fine {n : Nd} {k : Nat} {ps : List (Nat × Nat)} (hk : k < 8) (hf : Fine ps) : Fine (startL n k ps) := by
  intro i
  rw [start_let]
  refine ⟨(hf i).1, ?_⟩
  by_cases hi : i < ps.length
  · rw [start_held n k ps i hi]
    exact wth_lt (hf i).2 hk
  · unfold heldAt
    rw [List.getD, List.getElem?_eq_none (by rw [startL_len]; omega)]
    simp

theorem fill_let (n : Nd) (k back : Nat) (ps : List (Nat × Nat)) (i : Nat) : letAt (fillL n k back ps) i = letAt ps i := by
  unfold fillL; rw [sweepL_let, sweepL_let, start_let]
theorem fill_fine {n : Nd} {k back : Nat} {ps : List (Nat × Nat)} (hk : k < 8) (hf : Fine ps) : Fine (fillL n k back ps) :=
  sweepL_fine hk (sweepL_fine hk (start_fine hk hf))

/-- A sweep leaves the other nodes. -/
theorem sweep_other {n : Nd} {k N j : Nat} {ps : List (Nat × Nat)} (hk : k < 8) (hj : j < 8) (hne : j ≠ k) (hf : Fine ps) (i : Nat) (hi : i < ps.length) : (heldAt (sweepL n k N ps).1 i).testBit j = (heldAt ps i).testBit j := by
  rw [sweepL_held n k N ps i hi, newHeld, wth_bit (hf i).2 hk hj, if_neg hne]
theorem sweep_self {n : Nd} {k N : Nat} {ps : List (Nat × Nat)} (hk : k < 8) (hf : Fine ps) (i : Nat) (hi : i < ps.length) :
    (heldAt (sweepL n k N ps).1 i).testBit k = lawB n.op (letAt ps i) ((heldAt ps i).testBit n.l) ((heldAt ps i).testBit n.r) ((if i + 1 < ps.length then heldAt (sweepL n k N ps).1 (i + 1) else N).testBit k) ((if i + 1 < ps.length then heldAt (sweepL n k N ps).1 (i + 1) else N).testBit n.l) := by
  rw [sweepL_held n k N ps i hi, newHeld, wth_bit (hf i).2 hk hk, if_pos rfl]
theorem start_other {n : Nd} {k j : Nat} {ps : List (Nat × Nat)} (hk : k < 8) (hj : j < 8) (hne : j ≠ k) (hf : Fine ps) (i : Nat) (hi : i < ps.length) : (heldAt (startL n k ps) i).testBit j = (heldAt ps i).testBit j := by
  rw [start_held n k ps i hi, wth_bit (hf i).2 hk hj, if_neg hne]
theorem fill_other {n : Nd} {k back j : Nat} {ps : List (Nat × Nat)} (hk : k < 8) (hj : j < 8) (hne : j ≠ k) (hf : Fine ps) (i : Nat) (hi : i < ps.length) : (heldAt (fillL n k back ps) i).testBit j = (heldAt ps i).testBit j := by
  unfold fillL
  rw [sweep_other hk hj hne (sweepL_fine hk (start_fine hk hf)) i (by rw [sweepL_len, startL_len]; exact hi), sweep_other hk hj hne (start_fine hk hf) i (by rw [startL_len]; exact hi), start_other hk hj hne hf i hi]

/-- The table tells what the nodes ns mean. -/
def Tells (n back : Nat) (lt : Nat → Nat) (ns : List Nd) (ps : List (Nat × Nat)) : Prop :=
  ps.length = n ∧ Fine ps ∧ (∀ i, i < n → letAt ps i = lt i) ∧ ∀ i, i < n → ∀ k, k < ns.length → ((heldAt ps i).testBit k = true ↔ sem (lnx n back) lt ns k i)

theorem tells_fill {n back : Nat} {lt : Nat → Nat} {ns : List Nd} {ps : List (Nat × Nat)} (hb : back < n) (h : Tells n back lt ns ps) (nd : Nd) (hm : ns.length < 8)
    (hw1 : leafB nd.op = false → nd.l < ns.length) (hw2 : twoB nd.op = true → nd.r < ns.length) (hop : leafB nd.op = true ∨ oneB nd.op = true ∨ twoB nd.op = true) :
    Tells n back lt (ns ++ [nd]) (fillL nd ns.length back ps) := by
  obtain ⟨hlen, hf, hlet, hbit⟩ := h
  refine ⟨by rw [fillL_len]; exact hlen, fill_fine hm hf, fun i hi => by rw [fill_let]; exact hlet i hi, ?_⟩
  intro i hi k hk
  by_cases hkm : k < ns.length
  · rw [fill_other hm (by omega) (by omega) hf i (by omega), sem_old hkm]
    exact hbit i hi k hkm
  have hk2 : k = ns.length := by simp at hk; omega
  subst hk2
  rw [sem_new]
  -- the three tables
  have f0 := start_fine (n := nd) hm hf
  have l0 := startL_len nd ns.length ps
  have f1 := sweepL_fine (n := nd) (N := heldAt (startL nd ns.length ps) back) hm f0
  have l1 := sweepL_len nd ns.length (heldAt (startL nd ns.length ps) back) (startL nd ns.length ps)
  have o0 : ∀ j, j < ns.length → ∀ i, i < n → (heldAt (startL nd ns.length ps) i).testBit j = (heldAt ps i).testBit j := fun j hj i hi => start_other hm (by omega) (by omega) hf i (by omega)
  have z0 : (heldAt (startL nd ns.length ps) back).testBit ns.length = lastsB nd.op := by rw [start_held _ _ _ _ (by omega), wth_bit (hf _).2 hm hm, if_pos rfl]
  have t0 : ∀ i, letAt (startL nd ns.length ps) i = letAt ps i := start_let _ _ _
  have x1 := fun i (hi : i < n) => sweep_self (n := nd) (N := heldAt (startL nd ns.length ps) back) hm f0 i (by omega)
  have o1 : ∀ j, j < ns.length → ∀ i, i < n → (heldAt (sweepL nd ns.length (heldAt (startL nd ns.length ps) back) (startL nd ns.length ps)).1 i).testBit j = (heldAt ps i).testBit j := fun j hj i hi => (sweep_other hm (by omega) (by omega) f0 i (by omega)).trans (o0 j hj i hi)
  have t1 : ∀ i, letAt (sweepL nd ns.length (heldAt (startL nd ns.length ps) back) (startL nd ns.length ps)).1 i = letAt ps i := fun i => (sweepL_let _ _ _ _ i).trans (t0 i)
  have ef : fillL nd ns.length back ps = (sweepL nd ns.length (heldAt (sweepL nd ns.length (heldAt (startL nd ns.length ps) back) (startL nd ns.length ps)).1 back) (sweepL nd ns.length (heldAt (startL nd ns.length ps) back) (startL nd ns.length ps)).1).1 := rfl
  rw [ef]
  generalize startL nd ns.length ps = p0 at *
  generalize (sweepL nd ns.length (heldAt p0 back) p0).1 = p1 at *
  have x2 := fun i (hi : i < n) => sweep_self (n := nd) (N := heldAt p1 back) hm f1 i (by omega)
  have o2 : ∀ j, j < ns.length → ∀ i, i < n → (heldAt (sweepL nd ns.length (heldAt p1 back) p1).1 i).testBit j = (heldAt ps i).testBit j := fun j hj i hi => (sweep_other hm (by omega) (by omega) f1 i (by omega)).trans (o1 j hj i hi)
  generalize (sweepL nd ns.length (heldAt p1 back) p1).1 = p2 at *
  rw [l0] at l1 x1
  rw [l1] at x2
  rw [hlen] at x1 x2
  -- the rows below
  have B : ∀ j, j < ns.length → ∀ i, i < n → ((heldAt ps i).testBit j = true ↔ (rows (lnx n back) lt ns).getD j (fun _ => False) i) := fun j hj i hi => hbit i hi j hj
  have N2 : ∀ j, j < ns.length → ∀ i, i < n → (if i + 1 < n then heldAt p2 (i + 1) else heldAt p1 back).testBit j = (heldAt ps (lnx n back i)).testBit j := by
    intro j hj i hi
    unfold lnx
    split
    · exact o2 j hj _ (by omega)
    · exact o1 j hj _ hb
  have hL := lnx_lt (i := i) hb
  unfold den
  rcases hop with hop | hop | hop
  · rcases leaf_is hop with e | e | e | e | e
    · simp [e] at x2 ⊢; rw [x2 i hi]; simp [lawB]
    · simp [e] at x2 ⊢; rw [x2 i hi]; simp [lawB]
    · simp [e] at x2 ⊢; rw [x2 i hi, t1, hlet i hi]; simp [lawB]
    · simp [e] at x2 ⊢; rw [x2 i hi, t1, hlet i hi]; simp [lawB]
    · simp [e] at x2 ⊢; rw [x2 i hi, t1, hlet i hi]; simp [lawB]
  · have hl := hw1 (leaf_not_one hop)
    rcases one_is hop with e | e | e | e
    · simp only [e] at x2 ⊢
      rw [x2 i hi, o1 _ hl i hi]
      simp [lawB, ← B _ hl i hi]
    · simp only [e] at x2 ⊢
      rw [x2 i hi, N2 _ hl i hi]
      simp [lawB, ← B _ hl _ hL]
    · -- F
      have key := sweep_until hb (fun _ => true) (fun i => (heldAt ps i).testBit nd.l) (fun i => (heldAt p1 i).testBit ns.length) (fun i => (heldAt p2 i).testBit ns.length)
        (fun i hi => by
          have := x1 i hi
          rw [e, o0 _ hl i hi] at this
          simp only [lawB] at this
          simp only [Nat.reduceEqDiff, if_false, if_true] at this
          rw [this]
          split
          · simp
          · rw [z0, e]; simp [lastsB])
        (fun i hi => by
          have := x2 i hi
          rw [e, o1 _ hl i hi] at this
          simp only [lawB] at this
          simp only [Nat.reduceEqDiff, if_false, if_true] at this
          rw [this]
          split <;> simp) i hi
      simp only [e, Nat.reduceEqDiff, if_false, if_true]
      rw [key]
      unfold UU
      constructor
      · rintro ⟨s, h1, _⟩; exact ⟨s, (B _ hl _ (it_lt hb s i hi)).1 h1⟩
      · rintro ⟨s, h1⟩; exact ⟨s, (B _ hl _ (it_lt hb s i hi)).2 h1, fun _ _ => rfl⟩
    · -- G
      have key := sweep_until hb (fun _ => true) (fun i => !(heldAt ps i).testBit nd.l) (fun i => !(heldAt p1 i).testBit ns.length) (fun i => !(heldAt p2 i).testBit ns.length)
        (fun i hi => by
          have := x1 i hi
          rw [e, o0 _ hl i hi] at this
          simp only [lawB] at this
          simp only [Nat.reduceEqDiff, if_false, if_true] at this
          rw [this]
          split
          · simp
          · rw [z0, e]; simp [lastsB])
        (fun i hi => by
          have := x2 i hi
          rw [e, o1 _ hl i hi] at this
          simp only [lawB] at this
          simp only [Nat.reduceEqDiff, if_false, if_true] at this
          rw [this]
          split <;> simp) i hi
      simp only [e, Nat.reduceEqDiff, if_false, if_true]
      have key2 : (heldAt p2 i).testBit ns.length = true ↔ ¬ UU (lnx n back) (fun _ => true = true) (fun i => (!(heldAt ps i).testBit nd.l) = true) i := by
        rw [← key]; simp
      rw [key2]
      unfold UU
      constructor
      · intro h s
        rw [← B _ hl _ (it_lt hb s i hi)]
        cases hc : (heldAt ps (it (lnx n back) s i)).testBit nd.l with
        | true => rfl
        | false => exact absurd ⟨s, by simp [hc], fun _ _ => rfl⟩ h
      · rintro h ⟨s, h1, _⟩
        have := (B _ hl _ (it_lt hb s i hi)).2 (h s)
        simp [this] at h1
  · have hl := hw1 (two_not_leaf hop)
    have hr := hw2 hop
    rcases two_is hop with e | e | e | e
    · simp only [e] at x2 ⊢
      rw [x2 i hi, o1 _ hl i hi, o1 _ hr i hi]
      simp [lawB, ← B _ hl i hi, ← B _ hr i hi]
    · simp only [e] at x2 ⊢
      rw [x2 i hi, o1 _ hl i hi, o1 _ hr i hi]
      simp [lawB, ← B _ hl i hi, ← B _ hr i hi]
    · -- U
      have key := sweep_until hb (fun i => (heldAt ps i).testBit nd.l) (fun i => (heldAt ps i).testBit nd.r) (fun i => (heldAt p1 i).testBit ns.length) (fun i => (heldAt p2 i).testBit ns.length)
        (fun i hi => by
          have := x1 i hi
          rw [e, o0 _ hl i hi, o0 _ hr i hi] at this
          simp only [lawB] at this
          simp only [Nat.reduceEqDiff, if_false, if_true] at this
          rw [this]
          split
          · rfl
          · rw [z0, e]; simp [lastsB])
        (fun i hi => by
          have := x2 i hi
          rw [e, o1 _ hl i hi, o1 _ hr i hi] at this
          simp only [lawB] at this
          simp only [Nat.reduceEqDiff, if_false, if_true] at this
          rw [this]
          split <;> rfl) i hi
      simp only [e, Nat.reduceEqDiff, if_false, if_true]
      rw [key]
      unfold UU
      constructor
      · rintro ⟨s, h1, h2⟩; exact ⟨s, (B _ hr _ (it_lt hb s i hi)).1 h1, fun m hm => (B _ hl _ (it_lt hb m i hi)).1 (h2 m hm)⟩
      · rintro ⟨s, h1, h2⟩; exact ⟨s, (B _ hr _ (it_lt hb s i hi)).2 h1, fun m hm => (B _ hl _ (it_lt hb m i hi)).2 (h2 m hm)⟩
    · -- R
      have key := sweep_until hb (fun i => !(heldAt ps i).testBit nd.l) (fun i => !(heldAt ps i).testBit nd.r) (fun i => !(heldAt p1 i).testBit ns.length) (fun i => !(heldAt p2 i).testBit ns.length)
        (fun i hi => by
          have := x1 i hi
          rw [e, o0 _ hl i hi, o0 _ hr i hi] at this
          simp only [lawB] at this
          simp only [Nat.reduceEqDiff, if_false, if_true] at this
          rw [this]
          split
          · simp
          · rw [z0, e]; simp [lastsB])
        (fun i hi => by
          have := x2 i hi
          rw [e, o1 _ hl i hi, o1 _ hr i hi] at this
          simp only [lawB] at this
          simp only [Nat.reduceEqDiff, if_false, if_true] at this
          rw [this]
          split <;> simp) i hi
      simp only [e, Nat.reduceEqDiff, if_false, if_true]
      have key2 : (heldAt p2 i).testBit ns.length = true ↔ ¬ UU (lnx n back) (fun i => (!(heldAt ps i).testBit nd.l) = true) (fun i => (!(heldAt ps i).testBit nd.r) = true) i := by
        rw [← key]; simp
      rw [key2]
      unfold UU
      constructor
      · intro h s
        cases hc : (heldAt ps (it (lnx n back) s i)).testBit nd.r with
        | true => exact Or.inl ((B _ hr _ (it_lt hb s i hi)).1 hc)
        | false =>
          refine Or.inr ?_
          refine Classical.byContradiction fun hn => h ⟨s, by simp [hc], fun m hm => ?_⟩
          cases hd : (heldAt ps (it (lnx n back) m i)).testBit nd.l with
          | false => simp [hd]
          | true => exact absurd ⟨m, hm, (B _ hl _ (it_lt hb m i hi)).1 hd⟩ hn
      · rintro h ⟨s, h1, h2⟩
        rcases h s with h3 | ⟨m, hm, h3⟩
        · have := (B _ hr _ (it_lt hb s i hi)).2 h3
          simp [this] at h1
        · have h4 := h2 m hm
          have := (B _ hl _ (it_lt hb m i hi)).2 h3
          simp [this] at h4

end Go.Proofs.Ytjagijohfkffiab

/- The reference's parts in memory. -/
namespace Go.Proofs.Ytjagijohfkffiab
open Go.RowKit
set_option linter.unusedVariables false

def ptrTo1 (b : Nat) : Value := .pointer (some ⟨b, 0, none⟩)
def lptr (bs : List Nat) (n : Nd) : Option Addr := if leafB n.op then none else some ⟨bs.getD n.l 0, 0, none⟩
def rptr (bs : List Nat) (n : Nd) : Option Addr := if twoB n.op then some ⟨bs.getD n.r 0, 0, none⟩ else none
/-- The block of part i. -/
def partObj (bs : List Nat) (i : Nat) (n : Nd) : Obj := .cells #[.int .u8 n.op, .pointer (lptr bs n), .pointer (rptr bs n), .int .i64 i] 181 (0, 0)

/-- The formula at block F: its nodes ns, their parts' blocks bs. -/
structure Fm (w : World) (F : Nat) (ns : List Nd) (bs : List Nat) : Prop where
  c0 : ∃ ao cap, w.cell? ⟨F, 0, none⟩ = some (.slice ao ns.length cap) ∧ w.ownsRow (F + 1) 175 1 (.slice ao ns.length cap) ns.length (bs.map ptrTo1)
  f0 : w.frozen? ⟨F, 0, none⟩ = false
  len : bs.length = ns.length
  wf : Wf ns
  parts : ∀ (i : Nat) (n : Nd), ns[i]? = some n → ∃ b, bs[i]? = some b ∧ F < b ∧ w.heap[b]? = some (partObj bs i n)

/-- Blocks of cells of other types than the row's stay. -/
def Kp (F : Nat) (w w' : World) : Prop := ∀ (q : Nat) (c : Array Value) (T : TypeId), w.heap[q]? = some (.cells c T (0, 0)) → T ≠ 175 → q ≠ F → w'.heap[q]? = some (.cells c T (0, 0))

theorem heap_lt {w : World} {q : Nat} {o : Obj} (h : w.heap[q]? = some o) : q < w.heap.size := (Array.getElem?_eq_some_iff.1 h).1

theorem Kp.refl (F : Nat) (w : World) : Kp F w w := fun _ _ _ h _ _ => h
theorem Kp.trans {F : Nat} {a b c : World} (h : Kp F a b) (k : Kp F b c) : Kp F a c := fun q x T h1 h2 h3 => k q x T (h q x T h1 h2 h3) h2 h3
theorem Kp.alloc (F : Nat) (w : World) (o : Obj) : Kp F w (w.alloc o) := fun q c T h _ _ => by rw [Below.heap_alloc w o q (heap_lt h)]; exact h
theorem Kp.drew {F : Nat} {a w : World} (h : Kp F a w) : Kp F a w.drew := h
/-- A store into a block that came later, or into F. -/
theorem Kp.set {F : Nat} {a w : World} (h : Kp F a w) {P : Nat} (hP : a.heap.size ≤ P ∨ P = F) (j : Nat) (v : Value) : Kp F a (w.setCell ⟨P, j, none⟩ v) := fun q c T h1 h2 h3 => by
  have := heap_lt h1
  rw [Below.heap_setCell _ _ _ _ (by show q ≠ P; omega)]
  exact h q c T h1 h2 h3
theorem Kp.grown {F : Nat} {w w' : World} {v : Value} {n : Nat} {xs : List Value} (own : w.ownsRow (F + 1) 175 1 v n xs) (hg : w.grownBy w' v.ownBlock) : Kp F w w' := fun q c T h1 h2 h3 => by
  rw [hg.block q (heap_lt h1) (fun e => ?_)]
  · exact h1
  · rcases own.2 with ⟨hv, _⟩ | ⟨g, cap, cur, hv, _, hh, _⟩
    · rw [hv] at e; simp [Value.ownBlock] at e
    · rw [hv] at e
      simp [Value.ownBlock] at e
      subst e
      rw [h1] at hh
      simp at hh
      exact h2 hh.2

theorem own_set {w : World} {B e : Nat} {size : Nat} {v : Value} {n : Nat} {xs : List Value} (own : w.ownsRow B e size v n xs) {P : Nat} {o : Obj} (hP : w.heap[P]? = some o) (ho : ∀ c, o ≠ .cells c e (0, 0)) (j : Nat) (u : Value) :
    (w.setCell ⟨P, j, none⟩ u).ownsRow B e size v n xs := by
  obtain ⟨h1, h2⟩ := own
  refine ⟨h1, ?_⟩
  rcases h2 with h2 | ⟨g, cap, cur, hv, hb, hh, r⟩
  · exact Or.inl h2
  · refine Or.inr ⟨g, cap, cur, hv, hb, ?_, r⟩
    rw [Below.heap_setCell _ _ _ _ ?_]
    · exact hh
    · intro e'
      have e2 : g = P := e'
      subst e2
      rw [hh] at hP
      exact ho _ (Option.some.inj hP).symm

section
variable {w : World} {F : Nat} {ns : List Nd} {bs : List Nat}

theorem Fm.ltF (h : Fm w F ns bs) : F < w.heap.size := by
  obtain ⟨_, _, c, _⟩ := h.c0
  exact World.block_lt_of_cell? w ⟨F, 0, none⟩ c

theorem Fm.own (h : Fm w F ns bs) {v : Value} (hc : w.cell? ⟨F, 0, none⟩ = some v) : (∃ ao cap, v = .slice ao ns.length cap) ∧ w.ownsRow (F + 1) 175 1 v ns.length (bs.map ptrTo1) := by
  obtain ⟨ao, cap, c, own⟩ := h.c0
  rw [c] at hc
  cases hc
  exact ⟨⟨_, _, rfl⟩, own⟩

theorem Fm.lt (h : Fm w F ns bs) : ∀ b ∈ bs, b < w.heap.size ∧ F < b := by
  intro b hb
  obtain ⟨i, hi, rfl⟩ := List.getElem_of_mem hb
  obtain ⟨b', e, hF, hh⟩ := h.parts i (ns[i]'(by rw [← h.len]; exact hi)) (by simp)
  rw [List.getElem?_eq_getElem hi] at e
  cases e
  exact ⟨heap_lt hh, hF⟩

theorem Fm.alloc (h : Fm w F ns bs) (o : Obj) : Fm (w.alloc o) F ns bs := by
  obtain ⟨ao, cap, c, own⟩ := h.c0
  refine ⟨⟨ao, cap, ?_, own.alloc o⟩, ?_, h.len, h.wf, ?_⟩
  · rw [World.cell?_alloc_past _ _ _ h.ltF]; exact c
  · rw [World.frozen?_alloc_past _ _ _ h.ltF]; exact h.f0
  · intro i n hn
    obtain ⟨b, e, hF, hh⟩ := h.parts i n hn
    exact ⟨b, e, hF, by rw [Below.heap_alloc _ _ _ (heap_lt hh)]; exact hh⟩

theorem Fm.drew (h : Fm w F ns bs) : Fm w.drew F ns bs := ⟨h.c0, h.f0, h.len, h.wf, h.parts⟩

/-- A store into a part that is not yet listed. -/
theorem Fm.set (h : Fm w F ns bs) {P : Nat} (hP : P ∉ bs) (hF : P ≠ F) {o : Obj} (ho : w.heap[P]? = some o) (hne : ∀ c, o ≠ .cells c 175 (0, 0)) (j : Nat) (v : Value) : Fm (w.setCell ⟨P, j, none⟩ v) F ns bs := by
  obtain ⟨ao, cap, c, own⟩ := h.c0
  refine ⟨⟨ao, cap, ?_, own_set own ho hne j v⟩, ?_, h.len, h.wf, ?_⟩
  · rw [World.cell?_setCell_other _ _ _ _ (fun e => hF (congrArg Addr.block e))]; exact c
  · rw [World.frozen?_setCell]; exact h.f0
  · intro i n hn
    obtain ⟨b, e, hF, hh⟩ := h.parts i n hn
    refine ⟨b, e, hF, ?_⟩
    rw [Below.heap_setCell _ _ _ _ ?_]
    · exact hh
    · intro e'
      have e2 : b = P := e'
      subst e2
      exact hP (List.mem_of_getElem? e)

end

end Go.Proofs.Ytjagijohfkffiab
