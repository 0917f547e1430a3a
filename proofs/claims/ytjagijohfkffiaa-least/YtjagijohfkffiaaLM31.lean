import Derived.Test.YtjagijohfkffiaaLM17

/- Plain mathematics: words of so many letters as there are states tell apart whatever any word does. -/
namespace Go.Proofs.Ytjagijohfkffiaa
set_option linter.unusedVariables false

/-- No word of up to r letters tells i and j apart. -/
def LikeTo (out : Nat → Nat) (nx : Nat → Nat → Nat) (r i j : Nat) : Prop := ∀ w, LettersL w → w.length ≤ r → out (runM nx i w) = out (runM nx j w)

section
variable {out : Nat → Nat} {nx : Nat → Nat → Nat} {n : Nat}

theorem likeTo_symm {r i j : Nat} (h : LikeTo out nx r i j) : LikeTo out nx r j i := fun w a b => (h w a b).symm
theorem likeTo_trans {r i j k : Nat} (h : LikeTo out nx r i j) (h' : LikeTo out nx r j k) : LikeTo out nx r i k := fun w a b => (h w a b).trans (h' w a b)
theorem likeTo_mono {r s i j : Nat} (h : LikeTo out nx s i j) (hr : r ≤ s) : LikeTo out nx r i j := fun w a b => h w a (by omega)
theorem likeTo_zero {i j : Nat} : LikeTo out nx 0 i j ↔ out i = out j := by
  constructor
  · intro h
    exact h [] (fun x hx => by simp at hx) (Nat.le_refl _)
  · intro h w _ hl
    obtain rfl : w = [] := List.length_eq_zero_iff.1 (by omega)
    exact h
theorem likeTo_succ {r i j : Nat} : LikeTo out nx (r + 1) i j ↔ LikeTo out nx r i j ∧ ∀ a, a < 8 → LikeTo out nx r (nx i a) (nx j a) := by
  constructor
  · intro h
    refine ⟨likeTo_mono h (by omega), fun a ha w hw hl => ?_⟩
    exact h (a :: w) (fun x hx => by
      rcases List.mem_cons.1 hx with rfl | hx
      · exact ha
      · exact hw x hx) (by simp; omega)
  · rintro ⟨h, hn⟩ w hw hl
    cases w with
    | nil => exact h [] hw (by simp)
    | cons a w => exact hn a (hw a (List.mem_cons_self ..)) w (fun x hx => hw x (List.mem_cons_of_mem _ hx)) (by simp at hl; omega)

/-- Once a letter more tells no more, none does. -/
theorem likeTo_stop {r : Nat} (hc : ∀ i a, i < n → a < 8 → nx i a < n) (hs : ∀ i j, i < n → j < n → LikeTo out nx r i j → LikeTo out nx (r + 1) i j) :
    ∀ w, LettersL w → ∀ i j, i < n → j < n → LikeTo out nx r i j → out (runM nx i w) = out (runM nx j w)
  | [], _, i, j, _, _, h => h [] (fun x hx => by simp at hx) (by simp)
  | a :: w, hw, i, j, hi, hj, h => by
    have h8 := hw a (List.mem_cons_self ..)
    exact likeTo_stop hc hs w (fun x hx => hw x (List.mem_cons_of_mem _ hx)) (nx i a) (nx j a) (hc i a hi h8) (hc j a hj h8) ((likeTo_succ.1 (hs i j hi hj h)).2 a h8)

/-- The first of its kind. -/
def Lead (out : Nat → Nat) (nx : Nat → Nat → Nat) (r i : Nat) : Prop := ∀ j, j < i → ¬ LikeTo out nx r j i

theorem lead_ex (r : Nat) : ∀ i, ∃ l, l ≤ i ∧ Lead out nx r l ∧ LikeTo out nx r l i := by
  intro i
  induction i using Nat.strongRecOn with
  | ind i ih =>
    by_cases h : Lead out nx r i
    · exact ⟨i, Nat.le_refl _, h, fun _ _ _ => rfl⟩
    · unfold Lead at h
      have : ∃ j, j < i ∧ LikeTo out nx r j i := Classical.byContradiction fun c => h fun j hj hl => c ⟨j, hj, hl⟩
      obtain ⟨j, hj, hl⟩ := this
      obtain ⟨l, h1, h2, h3⟩ := ih j hj
      exact ⟨l, by omega, h2, likeTo_trans h3 hl⟩

/-- How many are the first of their kind. -/
def leadsN (p : Nat → Bool) : Nat → Nat
  | 0 => 0
  | n + 1 => leadsN p n + if p n = true then 1 else 0
theorem leadsN_le (p : Nat → Bool) : ∀ n, leadsN p n ≤ n
  | 0 => Nat.le_refl _
  | n + 1 => by have := leadsN_le p n; simp only [leadsN]; split <;> omega
theorem leadsN_mono {p q : Nat → Bool} (h : ∀ i, p i = true → q i = true) : ∀ n, leadsN p n ≤ leadsN q n
  | 0 => Nat.le_refl _
  | n + 1 => by
    have := leadsN_mono h n
    have := h n
    simp only [leadsN]
    by_cases hp : p n = true
    · rw [if_pos hp, if_pos (this hp)]; omega
    · rw [if_neg hp]; omega
theorem leadsN_eq {p q : Nat → Bool} (h : ∀ i, p i = true → q i = true) : ∀ n, leadsN q n ≤ leadsN p n → ∀ i, i < n → q i = true → p i = true
  | 0, _, i, hi, _ => by omega
  | n + 1, hle, i, hi, hq => by
    have h1 := leadsN_mono h n
    simp only [leadsN] at hle
    by_cases hp : p n = true
    · rw [if_pos hp, if_pos (h n hp)] at hle
      by_cases e : i = n
      · rw [e]; exact hp
      · exact leadsN_eq h n (by omega) i (by omega) hq
    · rw [if_neg hp] at hle
      by_cases hqn : q n = true
      · rw [if_pos hqn] at hle; omega
      · rw [if_neg hqn] at hle
        by_cases e : i = n
        · rw [e] at hq; exact absurd hq hqn
        · exact leadsN_eq h n (by omega) i (by omega) hq

theorem likeTo_all (hc : ∀ i a, i < n → a < 8 → nx i a < n) {i j : Nat} (hi : i < n) (hj : j < n) (h : LikeTo out nx n i j) : Like out nx out nx i j := by
  classical
  let p : Nat → Nat → Bool := fun r i => decide (Lead out nx r i)
  have hp : ∀ r i, p r i = true → p (r + 1) i = true := fun r i h => by
    simp only [p, decide_eq_true_eq] at h ⊢
    exact fun j hj hl => h j hj (likeTo_mono hl (by omega))
  have same : ∀ r, leadsN (p (r + 1)) n ≤ leadsN (p r) n → ∀ i j, i < n → j < n → LikeTo out nx r i j → LikeTo out nx (r + 1) i j := fun r hr i j hi hj hl => by
    have hb := leadsN_eq (hp r) n hr
    obtain ⟨l, h1, h2, h3⟩ := lead_ex (out := out) (nx := nx) (r + 1) i
    obtain ⟨m, k1, k2, k3⟩ := lead_ex (out := out) (nx := nx) (r + 1) j
    have a1 := hb l (by omega) (by simp only [p, decide_eq_true_eq]; exact h2)
    have a2 := hb m (by omega) (by simp only [p, decide_eq_true_eq]; exact k2)
    simp only [p, decide_eq_true_eq] at a1 a2
    have hlm : LikeTo out nx r l m := likeTo_trans (likeTo_mono h3 (by omega)) (likeTo_trans hl (likeTo_symm (likeTo_mono k3 (by omega))))
    have e : l = m := by
      rcases Nat.lt_trichotomy l m with c | c | c
      · exact absurd hlm (a2 l c)
      · exact c
      · exact absurd (likeTo_symm hlm) (a1 m c)
    subst e
    exact likeTo_trans (likeTo_symm h3) k3
  have key : ∀ r, (∃ q, q ≤ r ∧ leadsN (p (q + 1)) n ≤ leadsN (p q) n) ∨ r < leadsN (p r) n := by
    intro r
    induction r with
    | zero =>
      right
      have : ∀ m, 0 < m → 0 < leadsN (p 0) m := fun m => by
        induction m with
        | zero => intro h; omega
        | succ m ih =>
          intro _
          simp only [leadsN]
          by_cases h0 : 0 < m
          · have := ih h0; omega
          · obtain rfl : m = 0 := by omega
            rw [if_pos (by simp only [p, decide_eq_true_eq]; exact fun j hj => by omega)]
            omega
      exact this n (by omega)
    | succ r ih =>
      rcases ih with ⟨q, h1, h2⟩ | h
      · exact Or.inl ⟨q, by omega, h2⟩
      · by_cases c : leadsN (p (r + 1)) n ≤ leadsN (p r) n
        · exact Or.inl ⟨r, by omega, c⟩
        · right; omega
  obtain ⟨q, h1, h2⟩ : ∃ q, q ≤ n ∧ leadsN (p (q + 1)) n ≤ leadsN (p q) n := by
    rcases key n with h | h
    · exact h
    · have := leadsN_le (p n) n
      omega
  intro w hw
  exact likeTo_stop hc (same q h2) w hw i j hi hj (likeTo_mono h h1)
end

end Go.Proofs.Ytjagijohfkffiaa
