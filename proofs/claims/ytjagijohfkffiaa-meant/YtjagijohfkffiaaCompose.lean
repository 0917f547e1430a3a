/- Plain mathematics: a formula that is composed of others. -/
import Derived.Test.YtjagijohfkffiaaLasso
namespace Go.Proofs.Ytjagijohfkffiaa

/-- A node, its numbers moved on by b. -/
def shiftNd (b : Nat) (n : Nd) : Nd := if leafB n.op then ⟨n.op, 0, 0⟩ else if oneB n.op then ⟨n.op, n.l + b, 0⟩ else ⟨n.op, n.l + b, n.r + b⟩

theorem shift_shift (a b : Nat) (n : Nd) : shiftNd a (shiftNd b n) = shiftNd (b + a) n := by
  unfold shiftNd
  cases h1 : leafB n.op with
  | true => simp [h1]
  | false =>
    cases h2 : oneB n.op with
    | true => simp [h1, h2, Nat.add_assoc]
    | false => simp [h1, h2, Nat.add_assoc]

theorem shift_op (b : Nat) (n : Nd) : (shiftNd b n).op = n.op := by
  unfold shiftNd
  cases leafB n.op <;> cases oneB n.op <;> rfl

theorem map_shift (a b : Nat) (ms : List Nd) : (ms.map (shiftNd b)).map (shiftNd a) = ms.map (shiftNd (b + a)) := by
  rw [List.map_map]
  apply List.map_congr_left
  intro n _
  exact shift_shift a b n

/-- What is read in one text is read in another that has the same bytes there. -/
theorem ps_move : ∀ (k : Nat) (s : ByteArray) (a : Nat) (ns : List Nd) (a' : Nat) (ns' : List Nd), ps k s a ns = some (a', ns') →
    ∃ ms, ms ≠ [] ∧ ns' = ns ++ ms.map (shiftNd ns.length) ∧ ∀ (t : ByteArray) (d j : Nat) (ns2 : List Nd), (∀ i, a ≤ i → i < a' → bt t (i + d) = bt s i) → a' - a ≤ j → ps j t (a + d) ns2 = some (a' + d, ns2 ++ ms.map (shiftNd ns2.length))
  | 0, _, _, _, _, _, h => by simp [ps] at h
  | k + 1, s, a, ns, a', ns', h => by
    have g := ps_grows _ _ _ _ _ _ h
    by_cases b1 : leafB (bt s a) = true
    · rw [ps_leaf b1] at h
      simp only [Option.some.injEq, Prod.mk.injEq] at h
      obtain ⟨rfl, rfl⟩ := h
      refine ⟨[⟨bt s a, 0, 0⟩], by simp, by simp [shiftNd, b1], ?_⟩
      intro t d j ns2 hb hj
      obtain ⟨j', rfl⟩ : ∃ j', j = j' + 1 := ⟨j - 1, by omega⟩
      have e := hb a (Nat.le_refl _) (by omega)
      rw [ps_leaf (by rw [e]; exact b1), e]
      simp [shiftNd, b1, Nat.add_right_comm]
    · rw [Bool.not_eq_true] at b1
      by_cases b2 : oneB (bt s a) = true
      · rw [ps_one b2] at h
        unfold ps1 at h
        cases e : ps k s (a + 1) ns with
        | none => rw [e] at h; simp at h
        | some x =>
          obtain ⟨a1, n1⟩ := x
          rw [e] at h
          simp only [Option.some.injEq, Prod.mk.injEq] at h
          obtain ⟨rfl, rfl⟩ := h
          obtain ⟨m1, hne, h1, h2⟩ := ps_move k s _ _ _ _ e
          have hp : 0 < m1.length := List.length_pos_iff.2 hne
          refine ⟨m1 ++ [⟨bt s a, m1.length - 1, 0⟩], by simp, ?_, ?_⟩
          · rw [h1]
            simp [shiftNd, b1, b2]
            omega
          · intro t d j ns2 hb hj
            obtain ⟨j', rfl⟩ : ∃ j', j = j' + 1 := ⟨j - 1, by omega⟩
            have e0 := hb a (Nat.le_refl _) (by omega)
            have e1 := h2 t d j' ns2 (fun i hi1 hi2 => hb i (by omega) hi2) (by omega)
            rw [ps_one (by rw [e0]; exact b2), e0, ps1, show a + d + 1 = a + 1 + d by omega, e1]
            simp [shiftNd, b1, b2]
            omega
      · rw [Bool.not_eq_true] at b2
        by_cases b3 : bt s a = 40
        · rw [ps_two b3] at h
          unfold ps2 at h
          cases e : ps k s (a + 1) ns with
          | none => rw [e] at h; simp at h
          | some x =>
            obtain ⟨a1, n1⟩ := x
            rw [e] at h
            simp only at h
            by_cases b4 : twoB (bt s a1) = true
            · rw [if_pos b4] at h
              cases e2 : ps k s (a1 + 1) n1 with
              | none => rw [e2] at h; simp at h
              | some x =>
                obtain ⟨a2, n2⟩ := x
                rw [e2] at h
                simp only at h
                by_cases b5 : bt s a2 = 41
                · rw [if_pos b5] at h
                  simp only [Option.some.injEq, Prod.mk.injEq] at h
                  obtain ⟨rfl, rfl⟩ := h
                  have g1 := ps_grows _ _ _ _ _ _ e
                  have g2 := ps_grows _ _ _ _ _ _ e2
                  obtain ⟨m1, hne1, h1, h2⟩ := ps_move k s _ _ _ _ e
                  obtain ⟨m2, hne2, h3, h4⟩ := ps_move k s _ _ _ _ e2
                  have hp1 : 0 < m1.length := List.length_pos_iff.2 hne1
                  have hp2 : 0 < m2.length := List.length_pos_iff.2 hne2
                  have c1 := two_not_leaf b4
                  have c2 : oneB (bt s a1) = false := by
                    cases c : oneB (bt s a1) with
                    | false => rfl
                    | true => rw [one_not_two c] at b4; simp at b4
                  refine ⟨m1 ++ m2.map (shiftNd m1.length) ++ [⟨bt s a1, m1.length - 1, m1.length + m2.length - 1⟩], by simp, ?_, ?_⟩
                  · rw [h3, h1]
                    simp only [List.map_append, map_shift, List.length_append, List.length_map, List.append_assoc, List.map_cons, List.map_nil]
                    rw [show ns.length + m1.length = m1.length + ns.length by omega]
                    simp only [shiftNd, c1, c2, Bool.false_eq_true, if_false]
                    rw [show m1.length + ns.length - 1 = m1.length - 1 + ns.length by omega, show ns.length + (m1.length + m2.length) - 1 = m1.length + m2.length - 1 + ns.length by omega]
                  · intro t d j ns2 hb hj
                    obtain ⟨j', rfl⟩ : ∃ j', j = j' + 1 := ⟨j - 1, by omega⟩
                    have e0 := hb a (Nat.le_refl _) (by omega)
                    have e1 := h2 t d j' ns2 (fun i hi1 hi2 => hb i (by omega) (by omega)) (by omega)
                    have e3 := hb a1 (by omega) (by omega)
                    have e4 := h4 t d j' (ns2 ++ m1.map (shiftNd ns2.length)) (fun i hi1 hi2 => hb i (by omega) (by omega)) (by omega)
                    have e5 := hb a2 (by omega) (by omega)
                    rw [ps_two (by rw [e0]; exact b3), ps2, show a + d + 1 = a + 1 + d by omega, e1]
                    simp only
                    rw [e3, if_pos b4, show a1 + d + 1 = a1 + 1 + d by omega, e4]
                    simp only
                    rw [e5, if_pos b5]
                    simp only [List.map_append, map_shift, List.length_append, List.length_map, List.append_assoc, List.map_cons, List.map_nil]
                    rw [show ns2.length + m1.length = m1.length + ns2.length by omega]
                    simp only [shiftNd, c1, c2, Bool.false_eq_true, if_false]
                    rw [show m1.length + ns2.length - 1 = m1.length - 1 + ns2.length by omega, show ns2.length + (m1.length + m2.length) - 1 = m1.length + m2.length - 1 + ns2.length by omega, show a2 + 1 + d = a2 + d + 1 by omega]
                · rw [if_neg b5] at h; simp at h
            · rw [if_neg b4] at h; simp at h
        · rw [ps_no b1 b2 b3] at h; simp at h

end Go.Proofs.Ytjagijohfkffiaa
