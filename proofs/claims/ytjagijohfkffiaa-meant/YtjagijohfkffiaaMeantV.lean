/- Plain mathematics: what 'meant' reckons, and that it is what a composed formula means. -/
import Derived.Test.YtjagijohfkffiaaCompose2
namespace Go.Proofs.Ytjagijohfkffiaa

def anyTo (X : Nat → Bool) : Nat → Bool
  | 0 => false
  | j + 1 => anyTo X j || X j
def allTo (X : Nat → Bool) : Nat → Bool
  | 0 => true
  | j + 1 => allTo X j && X j
def untTo (X Z : Nat → Bool) : Nat → Bool
  | 0 => false
  | j + 1 => untTo X Z j || (allTo X j && Z j)
def relTo (X Z : Nat → Bool) : Nat → Bool
  | 0 => true
  | j + 1 => relTo X Z j && (anyTo X j || Z j)

/-- The signs, by number. -/
def opOf (k : Nat) : Nat := if k = 0 then 33 else if k = 1 then 88 else if k = 2 then 70 else if k = 3 then 71 else if k = 4 then 38 else if k = 5 then 124 else if k = 6 then 85 else 82

def meantV (k n back : Nat) (X Z : Nat → Bool) : Bool :=
  if k = 0 then !X 0 else if k = 1 then X (if 1 = n then back else 1) else if k = 4 then X 0 && Z 0 else if k = 5 then X 0 || Z 0
  else if k = 2 then anyTo X n else if k = 3 then allTo X n else if k = 6 then untTo X Z n else relTo X Z n

theorem anyTo_iff (X : Nat → Bool) (j : Nat) : anyTo X j = true ↔ ∃ s, s < j ∧ X s = true := by
  induction j with
  | zero => simp [anyTo]
  | succ j ih =>
    simp only [anyTo, Bool.or_eq_true, ih]
    constructor
    · rintro (⟨s, hs, h⟩ | h)
      · exact ⟨s, by omega, h⟩
      · exact ⟨j, by omega, h⟩
    · rintro ⟨s, hs, h⟩
      by_cases e : s = j
      · subst e; exact Or.inr h
      · exact Or.inl ⟨s, by omega, h⟩
theorem allTo_iff (X : Nat → Bool) (j : Nat) : allTo X j = true ↔ ∀ s, s < j → X s = true := by
  induction j with
  | zero => simp [allTo]
  | succ j ih =>
    simp only [allTo, Bool.and_eq_true, ih]
    constructor
    · rintro ⟨h1, h2⟩ s hs
      by_cases e : s = j
      · subst e; exact h2
      · exact h1 s (by omega)
    · intro h; exact ⟨fun s hs => h s (by omega), h j (by omega)⟩
theorem untTo_iff (X Z : Nat → Bool) (j : Nat) : untTo X Z j = true ↔ ∃ s, s < j ∧ Z s = true ∧ ∀ m, m < s → X m = true := by
  induction j with
  | zero => simp [untTo]
  | succ j ih =>
    simp only [untTo, Bool.or_eq_true, Bool.and_eq_true, ih, allTo_iff]
    constructor
    · rintro (⟨s, hs, h⟩ | ⟨h1, h2⟩)
      · exact ⟨s, by omega, h⟩
      · exact ⟨j, by omega, h2, h1⟩
    · rintro ⟨s, hs, h1, h2⟩
      by_cases e : s = j
      · subst e; exact Or.inr ⟨h2, h1⟩
      · exact Or.inl ⟨s, by omega, h1, h2⟩
theorem relTo_iff (X Z : Nat → Bool) (j : Nat) : relTo X Z j = true ↔ ∀ s, s < j → Z s = true ∨ ∃ m, m < s ∧ X m = true := by
  induction j with
  | zero => simp [relTo]
  | succ j ih =>
    simp only [relTo, Bool.or_eq_true, Bool.and_eq_true, ih, anyTo_iff]
    constructor
    · rintro ⟨h1, h2⟩ s hs
      by_cases e : s = j
      · subst e; exact h2.symm
      · exact h1 s (by omega)
    · intro h; exact ⟨fun s hs => h s (by omega), (h j (by omega)).symm⟩

/-- What holds goes round with the word. -/
theorem comp_meant {a b : Nat} (hb : 0 < b) {F G : Nat → Prop} {X Z : Nat → Bool} (hF : ∀ t, F t ↔ F (posAt a b t)) (hG : ∀ t, G t ↔ G (posAt a b t)) (hX : ∀ i, i < a + b → (X i = true ↔ F i)) (k : Nat) (hk : k < 8) (hZ : 4 ≤ k → ∀ i, i < a + b → (Z i = true ↔ G i)) :
    meantV k (a + b) a X Z = true ↔ Comp (opOf k) F G := by
  have pl : ∀ t, posAt a b t < a + b := fun t => by
    unfold posAt
    have := Nat.mod_lt (t - a) hb
    split <;> omega
  have ip : ∀ t, it (lnx (a + b) a) t 0 = posAt a b t := it_pos hb
  have UN : ∀ {P Q : Nat → Prop}, (∀ t, P t ↔ P (posAt a b t)) → (∀ t, Q t ↔ Q (posAt a b t)) → (∃ s, Q s ∧ ∀ m, m < s → P m) → ∃ s, s < a + b ∧ Q s ∧ ∀ m, m < s → P m := by
    intro P Q hP hQ ⟨s, h1, h2⟩
    obtain ⟨s', hs, h3, h4⟩ := UU_near (n := a + b) (back := a) (by omega) (A := P) (B := Q) (i := 0) (by omega) ⟨s, by rw [ip]; exact (hQ s).1 h1, fun m hm => by rw [ip]; exact (hP m).1 (h2 m hm)⟩
    exact ⟨s', hs, by rw [ip] at h3; exact (hQ s').2 h3, fun m hm => by have := h4 m hm; rw [ip] at this; exact (hP m).2 this⟩
  have cases8 : k = 0 ∨ k = 1 ∨ k = 2 ∨ k = 3 ∨ k = 4 ∨ k = 5 ∨ k = 6 ∨ k = 7 := by omega
  rcases cases8 with rfl | rfl | rfl | rfl | rfl | rfl | rfl | rfl
  · simp [meantV, opOf, Comp, ← hX 0 (by omega)]
  · simp only [meantV, opOf, Comp, Nat.reduceEqDiff, if_false, if_true]
    by_cases h : 1 = a + b
    · rw [if_pos h, hX a (by omega), hF 1]
      have : posAt a b 1 = a := by
        unfold posAt
        have h1 : b = 1 := by omega
        have h2 : a = 0 := by omega
        subst h1; subst h2
        simp
      rw [this]
    · rw [if_neg h, hX 1 (by omega)]
  · simp only [meantV, opOf, Comp, Nat.reduceEqDiff, if_false, if_true]
    rw [anyTo_iff]
    constructor
    · rintro ⟨s, hs, h⟩; exact ⟨s, (hX s hs).1 h⟩
    · rintro ⟨s, h⟩; exact ⟨posAt a b s, pl s, (hX _ (pl s)).2 ((hF s).1 h)⟩
  · simp only [meantV, opOf, Comp, Nat.reduceEqDiff, if_false, if_true]
    rw [allTo_iff]
    constructor
    · intro h s; exact (hF s).2 ((hX _ (pl s)).1 (h _ (pl s)))
    · intro h s hs; exact (hX s hs).2 (h s)
  · have hZ := hZ (by omega)
    simp [meantV, opOf, Comp, ← hX 0 (by omega), ← hZ 0 (by omega)]
  · have hZ := hZ (by omega)
    simp [meantV, opOf, Comp, ← hX 0 (by omega), ← hZ 0 (by omega)]
  · have hZ := hZ (by omega)
    simp only [meantV, opOf, Comp, Nat.reduceEqDiff, if_false, if_true]
    rw [untTo_iff]
    constructor
    · rintro ⟨s, hs, h1, h2⟩; exact ⟨s, (hZ s hs).1 h1, fun m hm => (hX m (by omega)).1 (h2 m hm)⟩
    · intro h
      obtain ⟨s, hs, h1, h2⟩ := UN hF hG h
      exact ⟨s, hs, (hZ s hs).2 h1, fun m hm => (hX m (by omega)).2 (h2 m hm)⟩
  · have hZ := hZ (by omega)
    simp only [meantV, opOf, Comp, Nat.reduceEqDiff, if_false]
    rw [relTo_iff]
    constructor
    · intro h s
      refine Classical.byContradiction fun hc => ?_
      have hc1 : ¬ G s := fun h => hc (Or.inl h)
      have hc2 : ∀ m, m < s → ¬ F m := fun m hm h => hc (Or.inr ⟨m, hm, h⟩)
      obtain ⟨s', hs, h1, h2⟩ := UN (P := fun t => ¬ F t) (Q := fun t => ¬ G t) (fun t => not_congr (hF t)) (fun t => not_congr (hG t)) ⟨s, hc1, hc2⟩
      rcases h s' hs with h3 | ⟨m, hm, h3⟩
      · exact h1 ((hZ s' hs).1 h3)
      · exact h2 m hm ((hX m (by omega)).1 h3)
    · intro h s hs
      rcases h s with h3 | ⟨m, hm, h3⟩
      · exact Or.inl ((hZ s hs).2 h3)
      · exact Or.inr ⟨m, hm, (hX m (by omega)).2 h3⟩

/-- Where a formula holds, by place: it goes round with the word. -/
theorem sem_round {A B : List Nat} (hb : 0 < B.length) (ns : List Nd) (k t : Nat) : sem (fun i => i + 1) (wordAt A B) ns k t ↔ sem (fun i => i + 1) (wordAt A B) ns k (posAt A.length B.length t) := by
  rw [sem_time hb, sem_time hb]
  have h : posAt A.length B.length (posAt A.length B.length t) = posAt A.length B.length t := by
    unfold posAt
    have := Nat.mod_lt (t - A.length) hb
    by_cases h1 : t < A.length
    · rw [if_pos h1, if_pos h1]
    · rw [if_neg h1, if_neg (by omega)]
      rw [Nat.add_sub_cancel_left, Nat.mod_mod]
  rw [h]

/-- From place i on. -/
def fromAt (A B : List Nat) (i : Nat) : List Nat := if i ≤ A.length then A.drop i else B.drop ((i - A.length) % B.length)
theorem fromAt_word {A B : List Nat} (hb : 0 < B.length) (i t : Nat) : wordAt (fromAt A B i) B t = wordAt A B (t + i) := by
  unfold fromAt
  by_cases h : i ≤ A.length
  · rw [if_pos h]
    unfold wordAt
    rw [List.length_drop]
    by_cases h1 : t + i < A.length
    · rw [if_pos (by omega), if_pos h1]; simp [List.getD, Nat.add_comm]
    · rw [if_neg (by omega), if_neg h1, show t - (A.length - i) = t + i - A.length by omega]
  · rw [if_neg h]
    unfold wordAt
    rw [List.length_drop, if_neg (show ¬ t + i < A.length by omega)]
    generalize hq : i - A.length = q
    have hm := Nat.mod_lt q hb
    have e : t + i - A.length = t + q := by omega
    rw [e]
    by_cases h1 : t < B.length - q % B.length
    · rw [if_pos h1]
      have e2 : (t + q) % B.length = t + q % B.length := by
        rw [Nat.add_mod]
        have ht : t % B.length = t := Nat.mod_eq_of_lt (by omega)
        rw [ht, Nat.mod_eq_of_lt (by omega)]
      rw [e2]
      simp [List.getD, Nat.add_comm]
    · rw [if_neg h1]
      have e2 : (t - (B.length - q % B.length)) % B.length = (t + q) % B.length := by
        have e3 : t + q = (t - (B.length - q % B.length)) + B.length + (q - q % B.length) := by
          have := Nat.mod_le q B.length
          omega
        have e4 : q - q % B.length = B.length * (q / B.length) := by
          have := Nat.div_add_mod q B.length
          omega
        rw [e3, e4, Nat.add_mul_mod_self_left, Nat.add_mod_right]
      rw [e2]

theorem sem_from {A B : List Nat} (hb : 0 < B.length) (ns : List Nd) (k i : Nat) : sem (fun i => i + 1) (wordAt (fromAt A B i) B) ns k 0 ↔ sem (fun i => i + 1) (wordAt A B) ns k i := by
  have h := sem_map (f := fun t => t + i) (nx1 := fun i => i + 1) (nx2 := fun i => i + 1) (lt1 := wordAt (fromAt A B i) B) (lt2 := wordAt A B) (fun t => by show t + 1 + i = t + i + 1; omega) (fun t => fromAt_word hb i t) ns k 0
  rw [Nat.zero_add] at h
  exact h

end Go.Proofs.Ytjagijohfkffiaa
