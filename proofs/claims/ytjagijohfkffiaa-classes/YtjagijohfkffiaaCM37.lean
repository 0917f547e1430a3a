import Derived.Test.YtjagijohfkffiaaCM14
import Derived.Deep.AppendLies

/- The reference's turned: plain mathematics, and its lists in memory. -/
namespace Go.Proofs.Ytjagijohfkffiaa
open Go.RowKit
set_option linter.unusedVariables false

theorem Try.infoNet : (Try.prog.info? 143).map (fun i => (i.zero, i.size)) = some (some (.agg #[.slice none 0 0, .slice none 0 0]), 2) := by kernel_rfl

/-- The lists of those from which one comes, as far as places i and the first k ways of place i have been looked at. -/
structure TnP (to : Nat → List Nat) (i k : Nat) (tl : Nat → List Nat) : Prop where
  mem : ∀ j a, a ∈ tl j ↔ (a < i ∧ j ∈ to a) ∨ (a = i ∧ j ∈ (to i).take k)
  len : ∀ j, (tl j).length ≤ 8 * i + ((to i).take k).count j

def updL (f : Nat → List Nat) (b : Nat) (l : List Nat) : Nat → List Nat := fun i => if i = b then l else f i

theorem tn_start (to : Nat → List Nat) : TnP to 0 0 (fun _ => []) := ⟨fun j a => by simp, fun j => by simp⟩
theorem tn_step {to : Nat → List Nat} {i k : Nat} {tl : Nat → List Nat} (h : TnP to i k tl) (hk : k < (to i).length) : TnP to i (k + 1) (updL tl (atN (to i) k) (tl (atN (to i) k) ++ [i])) := by
  have e : (to i).take (k + 1) = (to i).take k ++ [atN (to i) k] := by
    rw [List.take_succ_eq_append_getElem hk]
    simp [atN, List.getD, List.getElem?_eq_getElem hk]
  refine ⟨fun j a => ?_, fun j => ?_⟩
  · rw [e]
    unfold updL
    by_cases ej : j = atN (to i) k
    · rw [if_pos ej, List.mem_append, ← ej, h.mem]
      simp only [List.mem_singleton, List.mem_append]
      constructor
      · rintro ((h1 | h1) | h1)
        · exact Or.inl h1
        · exact Or.inr ⟨h1.1, Or.inl h1.2⟩
        · exact Or.inr ⟨h1, Or.inr trivial⟩
      · rintro (h1 | ⟨h1, h2 | h2⟩)
        · exact Or.inl (Or.inl h1)
        · exact Or.inl (Or.inr ⟨h1, h2⟩)
        · exact Or.inr h1
    · rw [if_neg ej, h.mem]
      simp only [List.mem_append, List.mem_singleton, ej, or_false]
  · rw [e, List.count_append]
    have := h.len j
    unfold updL
    by_cases ej : j = atN (to i) k
    · rw [if_pos ej, List.length_append, List.length_singleton, ← ej]
      simp only [List.count_singleton, beq_self_eq_true, if_true]
      omega
    · rw [if_neg ej]; omega
theorem tn_next {to : Nat → List Nat} {i : Nat} {tl : Nat → List Nat} (h : TnP to i (to i).length tl) (hc : ∀ j, (to i).count j ≤ 8) : TnP to (i + 1) 0 tl := by
  refine ⟨fun j a => ?_, fun j => ?_⟩
  · rw [h.mem, List.take_length]
    simp only [List.take_zero, List.not_mem_nil, and_false, or_false]
    constructor
    · rintro (⟨h1, h2⟩ | ⟨rfl, h2⟩)
      · exact ⟨by omega, h2⟩
      · exact ⟨by omega, h2⟩
    · rintro ⟨h1, h2⟩
      by_cases e : a = i
      · subst e; exact Or.inr ⟨rfl, h2⟩
      · exact Or.inl ⟨by omega, h2⟩
  · have h1 := h.len j
    rw [List.take_length] at h1
    have := hc j
    simp
    omega

/-- The lists in memory, each in a row of its own. -/
structure TnM (w : World) (B0 B g2 N : Nat) (V : Nat → Value) (tl : Nat → List Nat) : Prop where
  out : w.ownsRow B0 27 1 (.slice (some ⟨g2, 0, none⟩) N N) N ((List.range N).map V)
  row : ∀ j, j < N → w.ownsRow B 3 1 (V j) (tl j).length (nInts (tl j))
  sep : ∀ i j, i < N → j < N → i ≠ j → (V i).ownBlock = none ∨ (V i).ownBlock ≠ (V j).ownBlock

theorem TnM.keeps {w w' : World} {B0 B g2 N : Nat} {V : Nat → Value} {tl : Nat → List Nat} (h : TnM w B0 B g2 N V tl) (hb : Below w.heap.size w w') : TnM w' B0 B g2 N V tl := ⟨own_keeps h.out hb, fun j hj => own_keeps (h.row j hj) hb, h.sep⟩

theorem range_set (V : Nat → Value) (N b : Nat) (x : Value) : ((List.range N).map V).set b x = (List.range N).map (fun i => if i = b then x else V i) := by
  apply List.ext_getElem
  · simp
  · intro i h1 h2
    simp at h1
    rw [List.getElem_set]
    simp only [List.getElem_map, List.getElem_range]
    by_cases e : b = i
    · rw [if_pos e, if_pos e.symm]
    · rw [if_neg e, if_neg (fun h => e h.symm)]

/-- One more in the list of b: the row has grown, the slice is stored. -/
theorem tnm_push {w w1 : World} {B0 B g2 N : Nat} {V : Nat → Value} {tl : Nat → List Nat} (h : TnM w B0 B g2 N V tl) {b a gg cc : Nat} (hb : b < N) (hgrow : w.grownBy w1 (V b).ownBlock)
    (hown : w1.ownsRow B 3 1 (.slice (some ⟨gg, 0, none⟩) ((tl b).length + 1) cc) ((tl b).length + 1) (nInts (tl b) ++ [.int .i64 (a : Nat)])) (hat : (V b).ownBlock = some gg ∨ gg = w.heap.size) :
    TnM (w1.setCell ⟨g2, b, none⟩ (.slice (some ⟨gg, 0, none⟩) ((tl b).length + 1) cc)) B0 B g2 N (fun i => if i = b then .slice (some ⟨gg, 0, none⟩) ((tl b).length + 1) cc else V i) (updL tl b (tl b ++ [a])) := by
  have key : ∀ j, j < N → j ≠ b → (V j).ownBlock = none ∨ (V j).ownBlock ≠ some gg := by
    intro j hj hne
    rcases hat with e | e
    · rw [← e]; exact h.sep j b hj hb hne
    · cases ho : (V j).ownBlock with
      | none => exact Or.inl rfl
      | some q =>
        have := ((h.row j hj).lt q ho).2
        exact Or.inr (fun e2 => by cases e2; omega)
  have ho1 := h.out.kept hgrow (own_ne' h.out (h.row b hb) (by decide))
  have hset := ho1.stored b (.slice (some ⟨gg, 0, none⟩) ((tl b).length + 1) cc)
  rw [range_set] at hset
  have hne : ∀ (v : Value) (n : Nat) (xs : List Value), w1.ownsRow B 3 1 v n xs → (w1.setCell ⟨g2, b, none⟩ (.slice (some ⟨gg, 0, none⟩) ((tl b).length + 1) cc)).ownsRow B 3 1 v n xs := by
    intro v n xs hv
    exact hv.kept hset.2 (own_ne' hv ho1 (by decide))
  refine ⟨hset.1, fun j hj => ?_, fun i j hi hj hij => ?_⟩
  · unfold updL
    by_cases e : j = b
    · subst e
      simp only [if_true]
      have := hne _ _ _ hown
      rw [show nInts (tl j) ++ [.int .i64 (a : Nat)] = nInts (tl j ++ [a]) by simp [nInts]] at this
      rw [List.length_append, List.length_singleton]
      exact this
    · simp only [if_neg e]
      exact hne _ _ _ ((h.row j hj).kept hgrow (h.sep j b hj hb e))
  · by_cases e1 : i = b
    · have e2 : j ≠ b := fun e => hij (e1.trans e.symm)
      simp only [if_pos e1, if_neg e2]
      right
      intro e
      rcases key j hj e2 with k | k
      · rw [k] at e; simp [Value.ownBlock] at e
      · exact k e.symm
    · by_cases e2 : j = b
      · simp only [if_neg e1, if_pos e2]
        exact key i hi e1
      · simp only [if_neg e1, if_neg e2]
        exact h.sep i j hi hj hij

end Go.Proofs.Ytjagijohfkffiaa
