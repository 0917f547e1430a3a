/- Plain mathematics: what a text's nodes are like; the table of a whole formula. -/
import Derived.Test.YtjagijohfkffiaaTable
namespace Go.Proofs.Ytjagijohfkffiaa

def Wf2 (ns : List Nd) : Prop := ∀ (i : Nat) (n : Nd), ns[i]? = some n → (leafB n.op = true ∧ n.l = 0 ∧ n.r = 0) ∨ (oneB n.op = true ∧ n.l < i ∧ n.r = 0) ∨ (twoB n.op = true ∧ n.l < i ∧ n.r < i)

theorem Wf2.snoc {ns : List Nd} (h : Wf2 ns) (n : Nd) (hn : (leafB n.op = true ∧ n.l = 0 ∧ n.r = 0) ∨ (oneB n.op = true ∧ n.l < ns.length ∧ n.r = 0) ∨ (twoB n.op = true ∧ n.l < ns.length ∧ n.r < ns.length)) : Wf2 (ns ++ [n]) := by
  intro i m hm
  by_cases hi : i < ns.length
  · rw [List.getElem?_append_left hi] at hm
    exact h i m hm
  · rw [List.getElem?_append_right (by omega)] at hm
    have : i = ns.length := by
      have := (List.getElem?_eq_some_iff.1 hm).1
      simp at this; omega
    subst this
    simp at hm
    subst hm
    exact hn

theorem ps_wf2 : ∀ (k : Nat) (s : ByteArray) (a : Nat) (ns : List Nd) (a' : Nat) (ns' : List Nd), ps k s a ns = some (a', ns') → Wf2 ns → Wf2 ns' ∧ ∃ ms, ns' = ns ++ ms
  | 0, _, _, _, _, _, h, _ => by simp [ps] at h
  | k + 1, s, a, ns, a', ns', h, hw => by
    by_cases b1 : leafB (bt s a) = true
    · rw [ps_leaf b1] at h
      simp only [Option.some.injEq, Prod.mk.injEq] at h
      obtain ⟨rfl, rfl⟩ := h
      exact ⟨hw.snoc _ (Or.inl ⟨b1, rfl, rfl⟩), _, rfl⟩
    · rw [Bool.not_eq_true] at b1
      by_cases b2 : oneB (bt s a) = true
      · rw [ps_one b2] at h
        unfold ps1 at h
        cases e : ps k s (a + 1) ns with
        | none => rw [e] at h; simp at h
        | some x =>
          obtain ⟨a1, n1⟩ := x
          rw [e] at h
          simp only [Option.some.injEq, Prod.mk.injEq] at h
          obtain ⟨rfl, rfl⟩ := h
          have g := ps_grows k s _ _ _ _ e
          obtain ⟨h1, ms, h2⟩ := ps_wf2 k s _ _ _ _ e hw
          exact ⟨h1.snoc _ (Or.inr (Or.inl ⟨b2, by simp only; omega, rfl⟩)), _, by rw [h2, List.append_assoc]⟩
      · rw [Bool.not_eq_true] at b2
        by_cases b3 : bt s a = 40
        · rw [ps_two b3] at h
          unfold ps2 at h
          cases e : ps k s (a + 1) ns with
          | none => rw [e] at h; simp at h
          | some x =>
            obtain ⟨a1, n1⟩ := x
            rw [e] at h
            simp only at h
            by_cases b4 : twoB (bt s a1) = true
            · rw [if_pos b4] at h
              cases e2 : ps k s (a1 + 1) n1 with
              | none => rw [e2] at h; simp at h
              | some x =>
                obtain ⟨a2, n2⟩ := x
                rw [e2] at h
                simp only at h
                by_cases b5 : bt s a2 = 41
                · rw [if_pos b5] at h
                  simp only [Option.some.injEq, Prod.mk.injEq] at h
                  obtain ⟨rfl, rfl⟩ := h
                  have g1 := ps_grows k s _ _ _ _ e
                  have g2 := ps_grows k s _ _ _ _ e2
                  obtain ⟨h1, ms1, q1⟩ := ps_wf2 k s _ _ _ _ e hw
                  obtain ⟨h2, ms2, q2⟩ := ps_wf2 k s _ _ _ _ e2 h1
                  exact ⟨h2.snoc _ (Or.inr (Or.inr ⟨b4, by simp only; omega, by simp only; omega⟩)), _, by rw [q2, q1, List.append_assoc, List.append_assoc]⟩
                · rw [if_neg b5] at h; simp at h
            · rw [if_neg b4] at h; simp at h
        · rw [ps_no b1 b2 b3] at h; simp at h

/-- The nodes of a formula that is one. -/
structure Good (ns : List Nd) : Prop where
  pos : 0 < ns.length
  le : ns.length ≤ 8
  wf : Wf2 ns

theorem parse_good {s : ByteArray} (h : (parseOf s).1 = 0) : Good (parseOf s).2 := by
  unfold parseOf at h ⊢
  split at h
  · simp at h
  · rename_i h1
    rw [if_neg h1]
    cases e : ps 25 s 0 [] with
    | none => rw [e] at h; simp at h
    | some x =>
      obtain ⟨a, ns⟩ := x
      rw [e] at h
      simp only at h ⊢
      split at h
      · rename_i h2
        rw [if_pos h2]
        split at h
        · simp at h
        · rename_i h3
          rw [if_neg h3]
          have g := ps_grows _ _ _ _ _ _ e
          have w := (ps_wf2 _ _ _ _ _ _ e (by intro i n h; simp at h)).1
          have g2 := g.2.2.2
          simp at g2
          exact ⟨g2, Nat.not_lt.1 h3, w⟩
      · simp at h

theorem Wf2.small {ns : List Nd} (h : Wf2 ns) (hl : ns.length ≤ 8) {i : Nat} {n : Nd} (hn : ns[i]? = some n) : n.l < 8 ∧ n.r < 8 := by
  have hi := (List.getElem?_eq_some_iff.1 hn).1
  rcases h i n hn with ⟨_, h1, h2⟩ | ⟨_, h1, h2⟩ | ⟨_, h1, h2⟩ <;> omega

def ndAt (ns : List Nd) (k : Nat) : Nd := ns.getD k ⟨0, 0, 0⟩

/-- The table behind k nodes. -/
def tabTo (back : Nat) (ns : List Nd) (ps : List (Nat × Nat)) : Nat → List (Nat × Nat)
  | 0 => ps
  | k + 1 => fillL (ndAt ns k) k back (tabTo back ns ps k)

theorem tabTo_len (back : Nat) (ns : List Nd) (ps : List (Nat × Nat)) (k : Nat) : (tabTo back ns ps k).length = ps.length := by
  induction k with
  | zero => rfl
  | succ k ih => simp only [tabTo]; rw [fillL_len, ih]
theorem tabTo_fine {back : Nat} {ns : List Nd} {ps : List (Nat × Nat)} (hf : Fine ps) (k : Nat) (hk : k ≤ 8) : Fine (tabTo back ns ps k) := by
  induction k with
  | zero => exact hf
  | succ k ih => exact fill_fine (by omega) (ih (by omega))

theorem tabTo_tells {back : Nat} {ns : List Nd} {ps : List (Nat × Nat)} {lt : Nat → Nat} (hb : back < ps.length) (hf : Fine ps) (hl : ∀ i, i < ps.length → letAt ps i = lt i) (hg : Wf2 ns) (h8 : ns.length ≤ 8) (k : Nat) (hk : k ≤ ns.length) :
    Tells ps.length back lt (ns.take k) (tabTo back ns ps k) := by
  induction k with
  | zero => exact ⟨rfl, hf, hl, fun i hi j hj => by simp at hj⟩
  | succ k ih =>
    have h1 := ih (by omega)
    have e : ns.take (k + 1) = ns.take k ++ [ndAt ns k] := by
      rw [List.take_succ_eq_append_getElem (by omega)]
      simp [ndAt, List.getD, List.getElem?_eq_getElem (show k < ns.length by omega)]
    have hn : ns[k]? = some (ndAt ns k) := by simp [ndAt, List.getD, List.getElem?_eq_getElem (show k < ns.length by omega)]
    have hlen : (ns.take k).length = k := by simp; omega
    rw [e]
    have key := tells_fill hb h1 (ndAt ns k) (by omega)
    rw [hlen] at key
    refine key ?_ ?_ ?_
    · intro h2
      rcases hg k _ hn with ⟨h3, _⟩ | ⟨_, h3, _⟩ | ⟨_, h3, _⟩
      · rw [h2] at h3; simp at h3
      · exact h3
      · exact h3
    · intro h2
      rcases hg k _ hn with ⟨h3, _⟩ | ⟨h3, _⟩ | ⟨_, _, h3⟩
      · rw [leaf_not_two h3] at h2; simp at h2
      · rw [one_not_two h3] at h2; simp at h2
      · exact h3
    · rcases hg k _ hn with ⟨h3, _⟩ | ⟨h3, _⟩ | ⟨h3, _⟩
      · exact Or.inl h3
      · exact Or.inr (Or.inl h3)
      · exact Or.inr (Or.inr h3)

/-- What the program's Holds answers of letters xs (stem and loop). -/
def holdsB (back : Nat) (ns : List Nd) (xs : List Nat) : Bool := (heldAt (tabTo back ns (xs.map fun x => (x, 0)) ns.length) 0).testBit (ns.length - 1)

def ltOf (xs : List Nat) (i : Nat) : Nat := xs.getD i 0

theorem holdsB_sem {back : Nat} {ns : List Nd} {xs : List Nat} (hg : Good ns) (hb : back < xs.length) (hx : ∀ x ∈ xs, x < 8) : holdsB back ns xs = true ↔ sem (lnx xs.length back) (ltOf xs) ns (ns.length - 1) 0 := by
  have hf : Fine (xs.map fun x => (x, 0)) := fine_of (by intro p hp; simp at hp; obtain ⟨x, hm, rfl⟩ := hp; exact ⟨hx x hm, by show 0 < 256; decide⟩)
  have ht := tabTo_tells (back := back) (ns := ns) (ps := xs.map fun x => (x, 0)) (lt := ltOf xs) (by simpa using hb) hf (by
    intro i hi
    simp at hi
    simp [letAt, ltOf, List.getD, List.getElem?_eq_getElem hi]) hg.wf hg.le ns.length (Nat.le_refl _)
  rw [List.take_length, List.length_map] at ht
  have := ht.2.2.2 0 (by omega) (ns.length - 1) (by have := hg.pos; omega)
  exact this

end Go.Proofs.Ytjagijohfkffiaa
