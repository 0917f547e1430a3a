/- Plain mathematics: endless paths in finite graphs that meet each of some marks again and again. -/
import Derived.RowKit
namespace Go.Proofs.Ytjagijohfkffiaa

def reachN (E : Nat → Nat → Prop) : Nat → Nat → Nat → Prop
  | 0, a, b => a = b
  | L + 1, a, b => ∃ c, E a c ∧ reachN E L c b

/-- With one step at least. -/
def reach (E : Nat → Nat → Prop) (a b : Nat) : Prop := ∃ L, reachN E (L + 1) a b

theorem reachN_add {E : Nat → Nat → Prop} : ∀ (L M a b c : Nat), reachN E L a b → reachN E M b c → reachN E (L + M) a c
  | 0, M, a, b, c, h, k => by cases h; rw [Nat.zero_add]; exact k
  | L + 1, M, a, b, c, ⟨d, h1, h2⟩, k => by
    rw [show L + 1 + M = L + M + 1 by omega]
    exact ⟨d, h1, reachN_add L M d b c h2 k⟩

theorem reach_trans {E : Nat → Nat → Prop} {a b c : Nat} (h : reach E a b) (k : reach E b c) : reach E a c := by
  obtain ⟨L, h⟩ := h
  obtain ⟨M, k⟩ := k
  exact ⟨L + M + 1, by rw [show L + M + 1 + 1 = (L + 1) + (M + 1) by omega]; exact reachN_add _ _ _ _ _ h k⟩
theorem reach_edge {E : Nat → Nat → Prop} {a b : Nat} (h : E a b) : reach E a b := ⟨0, b, h, rfl⟩
theorem reach_cons {E : Nat → Nat → Prop} {a b c : Nat} (h : E a b) (k : reach E b c) : reach E a c := reach_trans (reach_edge h) k

/-- A walk of L steps. -/
def Walk (E : Nat → Nat → Prop) (p : Nat → Nat) (L a b : Nat) : Prop := p 0 = a ∧ p L = b ∧ ∀ i, i < L → E (p i) (p (i + 1))

theorem walk_of {E : Nat → Nat → Prop} : ∀ (L a b : Nat), reachN E L a b → ∃ p, Walk E p L a b
  | 0, a, b, h => ⟨fun _ => a, rfl, h, fun i hi => by omega⟩
  | L + 1, a, b, ⟨c, h1, h2⟩ => by
    obtain ⟨p, p0, pL, pe⟩ := walk_of L c b h2
    refine ⟨fun i => match i with | 0 => a | i + 1 => p i, rfl, pL, fun i hi => ?_⟩
    cases i with
    | zero => show E a (p 0); rw [p0]; exact h1
    | succ i => exact pe i (by omega)

theorem walk_reach {E : Nat → Nat → Prop} {p : Nat → Nat} (h : ∀ t, E (p t) (p (t + 1))) (s d : Nat) : reach E (p s) (p (s + d + 1)) := by
  induction d with
  | zero => exact reach_edge (h s)
  | succ d ih => exact reach_trans ih (reach_edge (h (s + d + 1)))

/-- Two walks, one behind the other. -/
def joinW (p q : Nat → Nat) (L : Nat) (i : Nat) : Nat := if i < L then p i else q (i - L)
theorem walk_join {E : Nat → Nat → Prop} {p q : Nat → Nat} {L M a b c : Nat} (h : Walk E p L a b) (k : Walk E q M b c) : Walk E (joinW p q L) (L + M) a c := by
  obtain ⟨h0, hL, he⟩ := h
  obtain ⟨k0, kM, ke⟩ := k
  refine ⟨?_, ?_, fun i hi => ?_⟩
  · unfold joinW
    by_cases h : 0 < L
    · rw [if_pos h]; exact h0
    · rw [if_neg h]
      have : L = 0 := by omega
      subst this
      rw [Nat.sub_self, k0, ← hL, h0]
  · unfold joinW
    rw [if_neg (by omega), Nat.add_sub_cancel_left]; exact kM
  · unfold joinW
    by_cases h1 : i + 1 < L
    · rw [if_pos (by omega), if_pos h1]; exact he i (by omega)
    · rw [if_neg h1]
      by_cases h2 : i < L
      · have e : i + 1 = L := by omega
        rw [if_pos h2, e, Nat.sub_self, k0, ← hL, ← e]; exact he i h2
      · rw [if_neg h2, show i + 1 - L = (i - L) + 1 by omega]; exact ke (i - L) (by omega)

/-- A ring through all that is listed. -/
theorem ring_through {E : Nat → Nat → Prop} {c : Nat} (hc : reach E c c) : ∀ l : List Nat, (∀ i ∈ l, reach E c i ∧ reach E i c) → ∃ p L, 0 < L ∧ Walk E p L c c ∧ ∀ i ∈ l, ∃ s, s < L ∧ p s = i
  | [], _ => by
    obtain ⟨L, h⟩ := hc
    obtain ⟨p, hp⟩ := walk_of _ _ _ h
    exact ⟨p, L + 1, by omega, hp, fun i hi => by simp at hi⟩
  | i :: l, hl => by
    obtain ⟨p, L, hL, hp, hm⟩ := ring_through hc l (fun j hj => hl j (List.mem_cons_of_mem _ hj))
    obtain ⟨⟨M, h1⟩, ⟨M', h2⟩⟩ := hl i (List.mem_cons_self ..)
    obtain ⟨q, hq⟩ := walk_of _ _ _ h1
    obtain ⟨r, hr⟩ := walk_of _ _ _ h2
    have hqr := walk_join hq hr
    refine ⟨joinW p (joinW q r (M + 1)) L, L + (M + 1 + (M' + 1)), by omega, walk_join hp hqr, fun j hj => ?_⟩
    rcases List.mem_cons.1 hj with rfl | hj
    · refine ⟨L + (M + 1), by omega, ?_⟩
      unfold joinW
      rw [if_neg (by omega), Nat.add_sub_cancel_left, if_neg (by omega), Nat.sub_self]
      exact hr.1
    · obtain ⟨s, hs, e⟩ := hm j hj
      refine ⟨s, by omega, ?_⟩
      unfold joinW
      rw [if_pos hs]; exact e

/-- An endless path. -/
def Path (E : Nat → Nat → Prop) (q : Nat → Nat) : Prop := ∀ t, E (q t) (q (t + 1))
/-- It meets each of the m marks again and again. -/
def Meets (K : Nat → Nat → Prop) (m : Nat) (q : Nat → Nat) : Prop := ∀ k, k < m → ∀ t, ∃ t', t ≤ t' ∧ K k (q t')

def GoodN (E : Nat → Nat → Prop) (K : Nat → Nat → Prop) (m c : Nat) : Prop := reach E c c ∧ ∀ k, k < m → ∃ i, reach E c i ∧ reach E i c ∧ K k i

theorem marks_list {E : Nat → Nat → Prop} {K : Nat → Nat → Prop} {c : Nat} : ∀ m, (∀ k, k < m → ∃ i, reach E c i ∧ reach E i c ∧ K k i) → ∃ l : List Nat, (∀ i ∈ l, reach E c i ∧ reach E i c) ∧ ∀ k, k < m → ∃ i ∈ l, K k i
  | 0, _ => ⟨[], fun i hi => by simp at hi, fun k hk => by omega⟩
  | m + 1, h => by
    obtain ⟨l, h1, h2⟩ := marks_list m (fun k hk => h k (by omega))
    obtain ⟨i, a, b, d⟩ := h m (by omega)
    refine ⟨i :: l, fun j hj => ?_, fun k hk => ?_⟩
    · rcases List.mem_cons.1 hj with rfl | hj
      · exact ⟨a, b⟩
      · exact h1 j hj
    · by_cases e : k = m
      · subst e; exact ⟨i, List.mem_cons_self .., d⟩
      · obtain ⟨j, hj, hk2⟩ := h2 k (by omega)
        exact ⟨j, List.mem_cons_of_mem _ hj, hk2⟩

/-- Round and round. -/
theorem ring_path {E : Nat → Nat → Prop} {p : Nat → Nat} {L c : Nat} (hL : 0 < L) (h : Walk E p L c c) : Path E (fun t => p (t % L)) := by
  obtain ⟨h0, h1, he⟩ := h
  intro t
  have hm := Nat.mod_lt t hL
  show E (p (t % L)) (p ((t + 1) % L))
  by_cases h2 : t % L + 1 < L
  · have e : (t + 1) % L = t % L + 1 := by
      rw [Nat.add_mod]
      by_cases h3 : L = 1
      · omega
      · rw [Nat.mod_eq_of_lt (show 1 < L by omega), Nat.mod_eq_of_lt h2]
    rw [e]; exact he _ hm
  · have e : (t + 1) % L = 0 := by
      have e2 : t % L + 1 = L := by omega
      have := Nat.div_add_mod t L
      have e3 : t + 1 = L * (t / L + 1) := by rw [Nat.mul_add]; omega
      rw [e3, Nat.mul_mod_right]
    rw [e, h0]
    have := he (t % L) hm
    rw [show t % L + 1 = L by omega, h1] at this
    exact this

theorem good_path {E : Nat → Nat → Prop} {K : Nat → Nat → Prop} {m c : Nat} (h : GoodN E K m c) : ∃ q, q 0 = c ∧ Path E q ∧ Meets K m q ∧ ∃ L, 0 < L ∧ ∀ t, q (t + L) = q t := by
  obtain ⟨hc, hk⟩ := h
  obtain ⟨l, h1, h2⟩ := marks_list m hk
  obtain ⟨p, L, hL, hp, hm⟩ := ring_through hc l h1
  refine ⟨fun t => p (t % L), by simp [hp.1], ring_path hL hp, fun k hk t => ?_, L, hL, fun t => by simp⟩
  obtain ⟨i, hi, hK⟩ := h2 k hk
  obtain ⟨s, hs, e⟩ := hm i hi
  refine ⟨t * L + s, ?_, ?_⟩
  · have : t * 1 ≤ t * L := Nat.mul_le_mul_left t hL
    omega
  · show K k (p ((t * L + s) % L))
    rw [Nat.mul_comm, Nat.mul_add_mod, Nat.mod_eq_of_lt hs, e]
    exact hK

/-- Among few nodes one is met again and again. -/
theorem met_often {q : Nat → Nat} {P : Nat → Prop} {n : Nat} (hn : ∀ t, q t < n) (h : ∀ t, ∃ t', t ≤ t' ∧ P (q t')) : ∃ v, v < n ∧ P v ∧ ∀ t, ∃ t', t ≤ t' ∧ q t' = v := by
  refine Classical.byContradiction fun hc => ?_
  have key : ∀ j, j ≤ n → ∃ T, ∀ t, T ≤ t → ∀ v, v < j → P v → q t ≠ v := by
    intro j
    induction j with
    | zero => intro _; exact ⟨0, fun t _ v hv => by omega⟩
    | succ j ih =>
      intro hj
      obtain ⟨T, hT⟩ := ih (by omega)
      by_cases hP : P j
      · have : ∃ T', ∀ t, T' ≤ t → q t ≠ j := Classical.byContradiction fun hx => hc ⟨j, by omega, hP, fun t => Classical.byContradiction fun hy => hx ⟨t, fun t' ht e => hy ⟨t', ht, e⟩⟩⟩
        obtain ⟨T', hT'⟩ := this
        refine ⟨max T T', fun t ht v hv hPv => ?_⟩
        by_cases e : v = j
        · subst e; exact hT' t (by omega)
        · exact hT t (by omega) v (by omega) hPv
      · refine ⟨T, fun t ht v hv hPv => ?_⟩
        by_cases e : v = j
        · subst e; exact absurd hPv hP
        · exact hT t ht v (by omega) hPv
  obtain ⟨T, hT⟩ := key n (Nat.le_refl _)
  obtain ⟨t', ht, hp⟩ := h T
  exact hT t' ht (q t') (hn t') hp rfl

theorem path_good {E : Nat → Nat → Prop} {K : Nat → Nat → Prop} {m n : Nat} {q : Nat → Nat} (hq : Path E q) (hn : ∀ t, q t < n) (hm : Meets K m q) : ∃ c, c < n ∧ reach E (q 0) c ∧ GoodN E K m c := by
  obtain ⟨c, hc, _, hv⟩ := met_often (P := fun _ => True) hn (fun t => ⟨t, Nat.le_refl _, trivial⟩)
  have to : ∀ s v, (∀ t, ∃ t', t ≤ t' ∧ q t' = v) → reach E (q s) v := by
    intro s v hv
    obtain ⟨t', ht, e⟩ := hv (s + 1)
    obtain ⟨d, rfl⟩ : ∃ d, t' = s + d + 1 := ⟨t' - s - 1, by omega⟩
    rw [← e]
    exact walk_reach hq s d
  have back : ∀ u v, (∀ t, ∃ t', t ≤ t' ∧ q t' = u) → (∀ t, ∃ t', t ≤ t' ∧ q t' = v) → reach E u v := by
    intro u v hu hv
    obtain ⟨s, _, e⟩ := hu 0
    rw [← e]
    exact to s v hv
  refine ⟨c, hc, to 0 c hv, back c c hv hv, fun k hk => ?_⟩
  obtain ⟨i, _, hK, hi⟩ := met_often (P := K k) hn (hm k hk)
  exact ⟨i, back c i hv hi, back i c hi hv, hK⟩

/-- From a node an endless path goes that meets all marks just if it gets to a good one. -/
theorem endless_iff {E : Nat → Nat → Prop} {K : Nat → Nat → Prop} {m n a : Nat} (hE : ∀ a b, E a b → b < n) (ha : a < n) : (∃ q, q 0 = a ∧ Path E q ∧ Meets K m q) ↔ ∃ c, c < n ∧ reach E a c ∧ GoodN E K m c := by
  constructor
  · rintro ⟨q, q0, hq, hm⟩
    have hn : ∀ t, q t < n := fun t => by
      cases t with
      | zero => rw [q0]; exact ha
      | succ t => exact hE _ _ (hq t)
    obtain ⟨c, h1, h2, h3⟩ := path_good hq hn hm
    rw [q0] at h2
    exact ⟨c, h1, h2, h3⟩
  · rintro ⟨c, _, ⟨L, h1⟩, h2⟩
    obtain ⟨p, hp⟩ := walk_of _ _ _ h1
    obtain ⟨q, q0, hq, hm, _⟩ := good_path h2
    refine ⟨joinW p q (L + 1), ?_, ?_, ?_⟩
    · unfold joinW; rw [if_pos (by omega)]; exact hp.1
    · intro t
      unfold joinW
      by_cases h3 : t + 1 < L + 1
      · rw [if_pos (by omega), if_pos h3]; exact hp.2.2 t (by omega)
      · rw [if_neg h3]
        by_cases h4 : t < L + 1
        · have e : t + 1 = L + 1 := by omega
          rw [if_pos h4, e, Nat.sub_self, q0]
          have := hp.2.2 t h4
          rw [e, hp.2.1] at this
          exact this
        · rw [if_neg h4, show t + 1 - (L + 1) = (t - (L + 1)) + 1 by omega]; exact hq _
    · intro k hk t
      obtain ⟨t', ht, h3⟩ := hm k hk t
      refine ⟨L + 1 + t', by omega, ?_⟩
      unfold joinW
      rw [if_neg (by omega), Nat.add_sub_cancel_left]; exact h3

end Go.Proofs.Ytjagijohfkffiaa
