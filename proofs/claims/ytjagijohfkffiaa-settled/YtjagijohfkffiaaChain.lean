/- Plain mathematics: verdicts, by rows of sets. -/
import Derived.Test.YtjagijohfkffiaaRowSem
namespace Go.Proofs.Ytjagijohfkffiaa

/-- The endless word begins with u. -/
def Begins (u : List Nat) (x : Nat → Nat) : Prop := ∀ i, i < u.length → x i = u.getD i 0
def Letters (x : Nat → Nat) : Prop := ∀ t, x t < 8

/-- Equal as far as there are nodes. -/
def EqOn (n : Nat) (S T : Nat → Bool) : Prop := ∀ k, k < n → S k = T k

theorem EqOn.refl (n : Nat) (S : Nat → Bool) : EqOn n S S := fun _ _ => rfl
theorem EqOn.symm {n : Nat} {S T : Nat → Bool} (h : EqOn n S T) : EqOn n T S := fun k hk => (h k hk).symm
theorem EqOn.trans {n : Nat} {S T U : Nat → Bool} (h : EqOn n S T) (k : EqOn n T U) : EqOn n S U := fun i hi => (h i hi).trans (k i hi)

theorem wf2_lt {ns : List Nd} (hw : Wf2 ns) {k : Nat} {nd : Nd} (hn : ns[k]? = some nd) : k < ns.length ∧ (nd.l < ns.length) ∧ (nd.r < ns.length) := by
  have hk := (List.getElem?_eq_some_iff.1 hn).1
  rcases hw k nd hn with ⟨_, h1, h2⟩ | ⟨_, h1, h2⟩ | ⟨_, h1, h2⟩ <;> omega

theorem step_congr {ns : List Nd} (hw : Wf2 ns) {x : Nat} {S S' T T' : Nat → Bool} (hS : EqOn ns.length S S') (hT : EqOn ns.length T T') (h : Step ns x S T) : Step ns x S' T' := by
  intro k nd hn
  obtain ⟨h1, h2, h3⟩ := wf2_lt hw hn
  rw [← hS k h1, ← hS nd.l h2, ← hS nd.r h3, ← hT k h1, ← hT nd.l h2]
  exact h k nd hn

/-- The set may begin an endless row that keeps every promise, behind these letters. -/
def chain (ns : List Nd) : List Nat → (Nat → Bool) → Prop
  | [], S => ∃ x S', Letters x ∧ ERow ns x S' ∧ EqOn ns.length (S' 0) S
  | a :: u, S => a < 8 ∧ ∃ T, Step ns a S T ∧ chain ns u T

def consW {α : Type} (a : α) (x : Nat → α) : Nat → α
  | 0 => a
  | t + 1 => x t

theorem erow_cons {ns : List Nd} (hw : Wf2 ns) {x : Nat → Nat} {S' : Nat → Nat → Bool} (h : ERow ns x S') {a : Nat} {S T : Nat → Bool} (hs : Step ns a S T) (hT : EqOn ns.length (S' 0) T) : ERow ns (consW a x) (consW S S') := by
  refine ⟨fun t => ?_, fun k nd hn t => ?_⟩
  · cases t with
    | zero => exact step_congr hw (EqOn.refl _ _) hT.symm hs
    | succ t => exact h.step t
  · obtain ⟨t', ht, hk⟩ := h.kept k nd hn t
    exact ⟨t' + 1, by omega, hk⟩
theorem erow_tail {ns : List Nd} {x : Nat → Nat} {S' : Nat → Nat → Bool} (h : ERow ns x S') : ERow ns (fun t => x (t + 1)) (fun t => S' (t + 1)) := by
  refine ⟨fun t => h.step (t + 1), fun k nd hn t => ?_⟩
  obtain ⟨t', ht, hk⟩ := h.kept k nd hn (t + 1)
  refine ⟨t' - 1, by omega, ?_⟩
  show keptN nd k (S' (t' - 1 + 1)) = true
  rw [show t' - 1 + 1 = t' by omega]; exact hk

theorem chain_iff {ns : List Nd} (hw : Wf2 ns) : ∀ (u : List Nat) (S : Nat → Bool), (chain ns u S ↔ ∃ x S', Letters x ∧ Begins u x ∧ ERow ns x S' ∧ EqOn ns.length (S' 0) S)
  | [], S => by
    constructor
    · rintro ⟨x, S', h1, h2, h3⟩; exact ⟨x, S', h1, fun i hi => by simp at hi, h2, h3⟩
    · rintro ⟨x, S', h1, _, h2, h3⟩; exact ⟨x, S', h1, h2, h3⟩
  | a :: u, S => by
    constructor
    · rintro ⟨ha, T, hs, hc⟩
      obtain ⟨x, S', h1, h2, h3, h4⟩ := (chain_iff hw u T).1 hc
      refine ⟨consW a x, consW S S', fun t => ?_, fun i hi => ?_, erow_cons hw h3 hs h4, EqOn.refl _ _⟩
      · cases t with
        | zero => exact ha
        | succ t => exact h1 t
      · cases i with
        | zero => simp [consW]
        | succ i =>
          have := h2 i (by simpa using hi)
          simpa [consW] using this
    · rintro ⟨x, S', h1, h2, h3, h4⟩
      have hx := h2 0 (by simp)
      simp at hx
      refine ⟨by rw [← hx]; exact h1 0, S' 1, ?_, ?_⟩
      · have := h3.step 0
        rw [hx] at this
        exact step_congr hw h4 (EqOn.refl _ _) this
      · refine (chain_iff hw u (S' 1)).2 ⟨fun t => x (t + 1), fun t => S' (t + 1), fun t => h1 (t + 1), fun i hi => ?_, erow_tail h3, EqOn.refl _ _⟩
        have := h2 (i + 1) (by simpa using hi)
        simpa using this

theorem chain_live {ns : List Nd} (hw : Wf2 ns) {u : List Nat} {S : Nat → Bool} (h : chain ns u S) : chain ns [] S := by
  obtain ⟨x, S', h1, _, h2, h3⟩ := (chain_iff hw u S).1 h
  exact ⟨x, S', h1, h2, h3⟩

theorem chain_congr {ns : List Nd} (hw : Wf2 ns) {u : List Nat} {S T : Nat → Bool} (e : EqOn ns.length S T) (h : chain ns u S) : chain ns u T := by
  rw [chain_iff hw] at h ⊢
  obtain ⟨x, S', h1, h2, h3, h4⟩ := h
  exact ⟨x, S', h1, h2, h3, h4.trans e⟩

/-- Some endless word that begins with u makes the formula b. -/
def May (ns : List Nd) (u : List Nat) (b : Bool) : Prop := ∃ x, Letters x ∧ Begins u x ∧ (sem (fun i => i + 1) x ns (ns.length - 1) 0 ↔ b = true)

theorem may_iff {ns : List Nd} (hg : Good ns) (u : List Nat) (b : Bool) : May ns u b ↔ ∃ S : Nat → Bool, S (ns.length - 1) = b ∧ chain ns u S := by
  have hp := hg.pos
  constructor
  · rintro ⟨x, h1, h2, h3⟩
    obtain ⟨S, hS, hr⟩ := erow_truth hg.wf x
    refine ⟨S 0, ?_, (chain_iff hg.wf u (S 0)).2 ⟨x, S, h1, h2, hr, EqOn.refl _ _⟩⟩
    rw [Bool.eq_iff_iff, hS, h3]
  · rintro ⟨S, hb, hc⟩
    obtain ⟨x, S', h1, h2, h3, h4⟩ := (chain_iff hg.wf u S).1 hc
    refine ⟨x, h1, h2, ?_⟩
    rw [← erow_sem hg.wf h3 _ (by omega), h4 _ (by omega), hb]

/-- The verdict, by what may be. -/
def Verdict (ns : List Nd) (u : List Nat) (v : Nat) : Prop := (v = 2 ∧ ¬ May ns u true) ∨ (v = 1 ∧ May ns u true ∧ ¬ May ns u false) ∨ (v = 0 ∧ May ns u true ∧ May ns u false)

theorem verdict_fun {ns : List Nd} {u : List Nat} {v v' : Nat} (h : Verdict ns u v) (h' : Verdict ns u v') : v = v' := by
  rcases h with ⟨rfl, a⟩ | ⟨rfl, a, b⟩ | ⟨rfl, a, b⟩ <;> rcases h' with ⟨rfl, c⟩ | ⟨rfl, c, d⟩ | ⟨rfl, c, d⟩ <;> first | rfl | exact absurd ‹May ns u true› ‹¬ May ns u true› | exact absurd ‹May ns u false› ‹¬ May ns u false›

/-- The document's: TRUE, if it holds of every endless word that begins so; FALSE, if of none. -/
theorem verdict_doc {ns : List Nd} {u : List Nat} (hu : ∀ x ∈ u, x < 8) {v : Nat} (h : Verdict ns u v) :
    (v = 1 ↔ ∀ x, Letters x → Begins u x → sem (fun i => i + 1) x ns (ns.length - 1) 0) ∧ (v = 2 ↔ ∀ x, Letters x → Begins u x → ¬ sem (fun i => i + 1) x ns (ns.length - 1) 0) := by
  have ex : ∃ x, Letters x ∧ Begins u x := ⟨fun i => u.getD i 0, fun t => by
    show u.getD t 0 < 8
    rw [List.getD]
    cases e : u[t]? with
    | none => simp
    | some y => exact hu y (List.mem_of_getElem? e), fun i _ => rfl⟩
  have mt : May ns u true ↔ ∃ x, Letters x ∧ Begins u x ∧ sem (fun i => i + 1) x ns (ns.length - 1) 0 := by simp [May]
  have mf : May ns u false ↔ ∃ x, Letters x ∧ Begins u x ∧ ¬ sem (fun i => i + 1) x ns (ns.length - 1) 0 := by simp [May]
  have a1 : ¬ May ns u true ↔ ∀ x, Letters x → Begins u x → ¬ sem (fun i => i + 1) x ns (ns.length - 1) 0 := by
    rw [mt]
    exact ⟨fun h x h1 h2 h3 => h ⟨x, h1, h2, h3⟩, fun h ⟨x, h1, h2, h3⟩ => h x h1 h2 h3⟩
  have a2 : ¬ May ns u false ↔ ∀ x, Letters x → Begins u x → sem (fun i => i + 1) x ns (ns.length - 1) 0 := by
    rw [mf]
    exact ⟨fun h x h1 h2 => Classical.byContradiction fun h3 => h ⟨x, h1, h2, h3⟩, fun h ⟨x, h1, h2, h3⟩ => h3 (h x h1 h2)⟩
  have a3 : May ns u true ∨ May ns u false := by
    obtain ⟨x, h1, h2⟩ := ex
    by_cases h3 : sem (fun i => i + 1) x ns (ns.length - 1) 0
    · exact Or.inl (mt.2 ⟨x, h1, h2, h3⟩)
    · exact Or.inr (mf.2 ⟨x, h1, h2, h3⟩)
  rw [← a1, ← a2]
  rcases h with ⟨rfl, a⟩ | ⟨rfl, a, b⟩ | ⟨rfl, a, b⟩
  · simp [a, a3.resolve_left a]
  · simp [a, b]
  · simp [a, b]

end Go.Proofs.Ytjagijohfkffiaa
