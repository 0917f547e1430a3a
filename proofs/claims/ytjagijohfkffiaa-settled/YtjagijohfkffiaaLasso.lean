/- Plain mathematics: the endless word of a stem and a loop. -/
import Derived.Test.YtjagijohfkffiaaGood
namespace Go.Proofs.Ytjagijohfkffiaa

/-- The letter at place t of the endless word. -/
def wordAt (A B : List Nat) (t : Nat) : Nat := if t < A.length then A.getD t 0 else B.getD ((t - A.length) % B.length) 0

def posAt (a b t : Nat) : Nat := if t < a then t else a + (t - a) % b

theorem mod_step {q b : Nat} (hb : 0 < b) : (q + 1) % b = if q % b + 1 < b then q % b + 1 else 0 := by
  have h := Nat.mod_lt q hb
  rw [Nat.add_mod]
  by_cases h1 : b = 1
  · subst h1; simp [Nat.mod_one]
  · rw [Nat.mod_eq_of_lt (show 1 < b by omega)]
    split
    · exact Nat.mod_eq_of_lt ‹_›
    · rw [show q % b + 1 = b by omega]; exact Nat.mod_self b

theorem it_pos {a b : Nat} (hb : 0 < b) (t : Nat) : it (lnx (a + b) a) t 0 = posAt a b t := by
  induction t with
  | zero =>
    simp only [it, posAt]
    split
    · rfl
    · rename_i h
      have : a = 0 := by omega
      subst this
      simp
  | succ t ih =>
    rw [it_succ, ih]
    unfold posAt lnx
    by_cases h1 : t + 1 < a
    · rw [if_pos h1, if_pos (show t < a by omega), if_pos (by omega)]
    · rw [if_neg h1]
      by_cases h2 : t < a
      · rw [if_pos h2]
        have : t + 1 - a = 0 := by omega
        rw [this]
        split <;> simp <;> omega
      · rw [if_neg h2, show t + 1 - a = (t - a) + 1 by omega, mod_step hb]
        have := Nat.mod_lt (t - a) hb
        by_cases h3 : (t - a) % b + 1 < b
        · rw [if_pos h3, if_pos (by omega)]; omega
        · rw [if_neg h3, if_neg (by omega)]; rfl

theorem ltOf_pos {A B : List Nat} (hb : 0 < B.length) (t : Nat) : ltOf (A ++ B) (posAt A.length B.length t) = wordAt A B t := by
  unfold ltOf posAt wordAt
  have := Nat.mod_lt (t - A.length) hb
  by_cases h : t < A.length
  · rw [if_pos h, if_pos h]; simp [List.getD, List.getElem?_append_left h]
  · rw [if_neg h, if_neg h, List.getD, List.getD, List.getElem?_append_right (by omega), Nat.add_sub_cancel_left]

/-- At a time, and at the place where one is then. -/
theorem sem_time {A B : List Nat} (hb : 0 < B.length) (ns : List Nd) (k t : Nat) : sem (fun i => i + 1) (wordAt A B) ns k t ↔ sem (lnx (A.length + B.length) A.length) (ltOf (A ++ B)) ns k (posAt A.length B.length t) := by
  have h := sem_map (f := fun t => it (lnx (A.length + B.length) A.length) t 0) (nx1 := fun i => i + 1) (lt1 := wordAt A B) (nx2 := lnx (A.length + B.length) A.length) (lt2 := ltOf (A ++ B))
    (fun i => it_succ _ _ _) (fun i => by rw [it_pos hb, ltOf_pos hb]) ns k t
  rw [it_pos hb] at h
  exact h

/-- What Holds answers, by the document's own words. -/
theorem holdsB_inf {A B : List Nat} {ns : List Nd} (hg : Good ns) (hb : 0 < B.length) (hx : ∀ x ∈ A ++ B, x < 8) : holdsB A.length ns (A ++ B) = true ↔ sem (fun i => i + 1) (wordAt A B) ns (ns.length - 1) 0 := by
  rw [holdsB_sem hg (by simp; omega) hx, sem_time hb, List.length_append]
  have : posAt A.length B.length 0 = 0 := by
    unfold posAt
    split
    · rfl
    · rename_i h
      have h0 : A.length = 0 := by omega
      rw [h0]; simp
  rw [this]

theorem getD_app_left {A B : List Nat} {i : Nat} (h : i < A.length) : (A ++ B).getD i 0 = A.getD i 0 := by simp [List.getD, List.getElem?_append_left h]
theorem getD_app_right {A B : List Nat} {i : Nat} (h : A.length ≤ i) : (A ++ B).getD i 0 = B.getD (i - A.length) 0 := by simp [List.getD, List.getElem?_append_right h]

/-- The loop once more in the stem. -/
theorem wordAt_more {A B : List Nat} (hb : 0 < B.length) : wordAt (A ++ B) B = wordAt A B := by
  funext t
  unfold wordAt
  rw [List.length_append]
  by_cases h1 : t < A.length
  · rw [if_pos (by omega), if_pos h1, getD_app_left h1]
  · rw [if_neg h1]
    by_cases h2 : t < A.length + B.length
    · rw [if_pos h2, getD_app_right (by omega), Nat.mod_eq_of_lt (by omega)]
    · rw [if_neg h2, show t - A.length = (t - (A.length + B.length)) + B.length by omega, Nat.add_mod_right]

/-- The loop twice. -/
theorem wordAt_twice {A B : List Nat} (hb : 0 < B.length) : wordAt A (B ++ B) = wordAt A B := by
  funext t
  unfold wordAt
  rw [List.length_append]
  by_cases h1 : t < A.length
  · rw [if_pos h1, if_pos h1]
  · rw [if_neg h1, if_neg h1]
    generalize t - A.length = q
    have h2 := Nat.mod_lt q (show 0 < B.length + B.length by omega)
    have h3 : q % (B.length + B.length) % B.length = q % B.length := by
      rw [show B.length + B.length = B.length * 2 by omega]
      exact Nat.mod_mul_right_mod q B.length 2
    by_cases h4 : q % (B.length + B.length) < B.length
    · rw [getD_app_left h4, ← h3, Nat.mod_eq_of_lt h4]
    · rw [getD_app_right (by omega), ← h3]
      generalize q % (B.length + B.length) = r at *
      rw [Nat.mod_eq_sub_mod (by omega), Nat.mod_eq_of_lt (by omega)]

/-- The loop begun one letter later. -/
theorem wordAt_later {A B : List Nat} (hb : 0 < B.length) : wordAt (A ++ B.take 1) (B.drop 1 ++ B.take 1) = wordAt A B := by
  have ht : (B.take 1).length = 1 := by simp; omega
  have hd : (B.drop 1).length = B.length - 1 := by simp
  funext t
  unfold wordAt
  rw [List.length_append, List.length_append, ht, hd, show B.length - 1 + 1 = B.length by omega]
  by_cases h1 : t < A.length
  · rw [if_pos (by omega), if_pos h1, getD_app_left h1]
  · rw [if_neg h1]
    by_cases h2 : t < A.length + 1
    · rw [if_pos h2, getD_app_right (by omega), show t - A.length = 0 by omega, Nat.zero_mod]
      simp [List.getD, hb]
    · rw [if_neg h2, show t - A.length = (t - (A.length + 1)) + 1 by omega]
      generalize t - (A.length + 1) = q
      rw [mod_step hb]
      have h3 := Nat.mod_lt q hb
      by_cases h4 : q % B.length + 1 < B.length
      · rw [if_pos h4, getD_app_left (by omega)]
        simp [List.getD]
      · rw [if_neg h4, getD_app_right (by omega), hd, show q % B.length - (B.length - 1) = 0 by omega]
        simp [List.getD, hb]

end Go.Proofs.Ytjagijohfkffiaa
