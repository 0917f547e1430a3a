import Derived.Test.YtjagijohfkffiabCHEM01
import Derived.RowKit
import Derived.Deep.MidRow

/- Plain mathematics: endless paths in finite graphs that meet each of some marks again and again. -/
namespace Go.Proofs.Ytjagijohfkffiab

def reachN (E : Nat → Nat → Prop) : Nat → Nat → Nat → Prop
  | 0, a, b => a = b
  | L + 1, a, b => ∃ c, E a c ∧ reachN E L c b

/-- With one step at least. -/
def reach (E : Nat → Nat → Prop) (a b : Nat) : Prop := ∃ L, reachN E (L + 1) a b

theorem reachN_add {E : Nat → Nat → Prop} : ∀ (L M a b c : Nat), reachN E L a b → reachN E M b c → reachN E (L + M) a c
  | 0, M, a, b, c, h, k => by cases h; rw [Nat.zero_add]; exact k
  | L + 1, M, a, b, c, ⟨d, h1, h2⟩, k => by
    rw [show L + 1 + M = L + M + 1 by omega]
    exact ⟨d, h1, reachN_add L M d b c h2 k⟩

theorem reach_trans {E : Nat → Nat → Prop} {a b c : Nat} (h : reach E a b) (k : reach E b c) : reach E a c := by
  obtain ⟨L, h⟩ := h
  obtain ⟨M, k⟩ := k
  exact ⟨L + M + 1, by rw [show L + M + 1 + 1 = (L + 1) + (M + 1) by omega]; exact reachN_add _ _ _ _ _ h k⟩
theorem reach_edge {E : Nat → Nat → Prop} {a b : Nat} (h : E a b) : reach E a b := ⟨0, b, h, rfl⟩
theorem reach_cons {E : Nat → Nat → Prop} {a b c : Nat} (h : E a b) (k : reach E b c) : reach E a c := reach_trans (reach_edge h) k

/-- A walk of L steps. -/
def Walk (E : Nat → Nat → Prop) (p : Nat → Nat) (L a b : Nat) : Prop := p 0 = a ∧ p L = b ∧ ∀ i, i < L → E (p i) (p (i + 1))

theorem walk_of {E : Nat → Nat → Prop} : ∀ (L a b : Nat), reachN E L a b → ∃ p, Walk E p L a b
  | 0, a, b, h => ⟨fun _ => a, rfl, h, fun i hi => by omega⟩
  | L + 1, a, b, ⟨c, h1, h2⟩ => by
    obtain ⟨p, p0, pL, pe⟩ := walk_of L c b h2
    refine ⟨fun i => match i with | 0 => a | i + 1 => p i, rfl, pL, fun i hi => ?_⟩
    cases i with
    | zero => show E a (p 0); rw [p0]; exact h1
    | succ i => exact pe i (by omega)

theorem walk_reach {E : Nat → Nat → Prop} {p : Nat → Nat} (h : ∀ t, E (p t) (p (t + 1))) (s d : Nat) : reach E (p s) (p (s + d + 1)) := by
  induction d with
  | zero => exact reach_edge (h s)
  | succ d ih => exact reach_trans ih (reach_edge (h (s + d + 1)))

/-- Two walks, one behind the other. -/
def joinW (p q : Nat → Nat) (L : Nat) (i : Nat) : Nat := if i < L then p i else q (i - L)
theorem walk_join {E : Nat → Nat → Prop} {p q : Nat → Nat} {L M a b c : Nat} (h : Walk E p L a b) (k : Walk E q M b c) : Walk E (joinW p q L) (L + M) a c := by
  obtain ⟨h0, hL, he⟩ := h
  obtain ⟨k0, kM, ke⟩ := k
  refine ⟨?_, ?_, fun i hi => ?_⟩
  · unfold joinW
    by_cases h : 0 < L
    · rw [if_pos h]; exact h0
    · rw [if_neg h]
      have : L = 0 := by omega
      subst this
      rw [Nat.sub_self, k0, ← hL, h0]
  · unfold joinW
    rw [if_neg (by omega), Nat.add_sub_cancel_left]; exact kM
  · unfold joinW
    by_cases h1 : i + 1 < L
    · rw [if_pos (by omega), if_pos h1]; exact he i (by omega)
    · rw [if_neg h1]
      by_cases h2 : i < L
      · have e : i + 1 = L := by omega
        rw [if_pos h2, e, Nat.sub_self, k0, ← hL, ← e]; exact he i h2
      · rw [if_neg h2, show i + 1 - L = (i - L) + 1 by omega]; exact ke (i - L) (by omega)

/-- A ring through all that is listed. -/
theorem ring_through {E : Nat → Nat → Prop} {c : Nat} (hc : reach E c c) : ∀ l : List Nat, (∀ i ∈ l, reach E c i ∧ reach E i c) → ∃ p L, 0 < L ∧ Walk E p L c c ∧ ∀ i ∈ l, ∃ s, s < L ∧ p s = i
  | [], _ => by
    obtain ⟨L, h⟩ := hc
    obtain ⟨p, hp⟩ := walk_of _ _ _ h
    exact ⟨p, L + 1, by omega, hp, fun i hi => by simp at hi⟩
  | i :: l, hl => by
    obtain ⟨p, L, hL, hp, hm⟩ := ring_through hc l (fun j hj => hl j (List.mem_cons_of_mem _ hj))
    obtain ⟨⟨M, h1⟩, ⟨M', h2⟩⟩ := hl i (List.mem_cons_self ..)
    obtain ⟨q, hq⟩ := walk_of _ _ _ h1
    obtain ⟨r, hr⟩ := walk_of _ _ _ h2
    have hqr := walk_join hq hr
    refine ⟨joinW p (joinW q r (M + 1)) L, L + (M + 1 + (M' + 1)), by omega, walk_join hp hqr, fun j hj => ?_⟩
    rcases List.mem_cons.1 hj with rfl | hj
    · refine ⟨L + (M + 1), by omega, ?_⟩
      unfold joinW
      rw [if_neg (by omega), Nat.add_sub_cancel_left, if_neg (by omega), Nat.sub_self]
      exact hr.1
    · obtain ⟨s, hs, e⟩ := hm j hj
      refine ⟨s, by omega, ?_⟩
      unfold joinW
      rw [if_pos hs]; exact e

/-- An endless path. -/
def Path (E : Nat → Nat → Prop) (q : Nat → Nat) : Prop := ∀ t, E (q t) (q (t + 1))
/-- It meets each of the m marks again and again. -/
def Meets (K : Nat → Nat → Prop) (m : Nat) (q : Nat → Nat) : Prop := ∀ k, k < m → ∀ t, ∃ t', t ≤ t' ∧ K k (q t')

def GoodN (E : Nat → Nat → Prop) (K : Nat → Nat → Prop) (m c : Nat) : Prop := reach E c c ∧ ∀ k, k < m → ∃ i, reach E c i ∧ reach E i c ∧ K k i

theorem marks_list {E : Nat → Nat → Prop} {K : Nat → Nat → Prop} {c : Nat} : ∀ m, (∀ k, k < m → ∃ i, reach E c i ∧ reach E i c ∧ K k i) → ∃ l : List Nat, (∀ i ∈ l, reach E c i ∧ reach E i c) ∧ ∀ k, k < m → ∃ i ∈ l, K k i
  | 0, _ => ⟨[], fun i hi => by simp at hi, fun k hk => by omega⟩
  | m + 1, h => by
    obtain ⟨l, h1, h2⟩ := marks_list m (fun k hk => h k (by omega))
    obtain ⟨i, a, b, d⟩ := h m (by omega)
    refine ⟨i :: l, fun j hj => ?_, fun k hk => ?_⟩
    · rcases List.mem_cons.1 hj with rfl | hj
      · exact ⟨a, b⟩
      · exact h1 j hj
    · by_cases e : k = m
      · subst e; exact ⟨i, List.mem_cons_self .., d⟩
      · obtain ⟨j, hj, hk2⟩ := h2 k (by omega)
        exact ⟨j, List.mem_cons_of_mem _ hj, hk2⟩

/-- Round and round. -/
theorem ring_path {E : Nat → Nat → Prop} {p : Nat → Nat} {L c : Nat} (hL : 0 < L) (h : Walk E p L c c) : Path E (fun t => p (t % L)) := by
  obtain ⟨h0, h1, he⟩ := h
  intro t
  have hm := Nat.mod_lt t hL
  show E (p (t % L)) (p ((t + 1) % L))
  by_cases h2 : t % L + 1 < L
  · have e : (t + 1) % L = t % L + 1 := by
      rw [Nat.add_mod]
      by_cases h3 : L = 1
      · omega
      · rw [Nat.mod_eq_of_lt (show 1 < L by omega), Nat.mod_eq_of_lt h2]
    rw [e]; exact he _ hm
  · have e : (t + 1) % L = 0 := by
      have e2 : t % L + 1 = L := by omega
      have := Nat.div_add_mod t L
      have e3 : t + 1 = L * (t / L + 1) := by rw [Nat.mul_add]; omega
      rw [e3, Nat.mul_mod_right]
    rw [e, h0]
    have := he (t % L) hm
    rw [show t % L + 1 = L by omega, h1] at this
    exact this

theorem good_path {E : Nat → Nat → Prop} {K : Nat → Nat → Prop} {m c : Nat} (h : GoodN E K m c) : ∃ q, q 0 = c ∧ Path E q ∧ Meets K m q ∧ ∃ L, 0 < L ∧ ∀ t, q (t + L) = q t := by
  obtain ⟨hc, hk⟩ := h
  obtain ⟨l, h1, h2⟩ := marks_list m hk
  obtain ⟨p, L, hL, hp, hm⟩ := ring_through hc l h1
  refine ⟨fun t => p (t % L), by simp [hp.1], ring_path hL hp, fun k hk t => ?_, L, hL, fun t => by simp⟩
  obtain ⟨i, hi, hK⟩ := h2 k hk
  obtain ⟨s, hs, e⟩ := hm i hi
  refine ⟨t * L + s, ?_, ?_⟩
  · have : t * 1 ≤ t * L := Nat.mul_le_mul_left t hL
    omega
  · show K k (p ((t * L + s) % L))
    rw [Nat.mul_comm, Nat.mul_add_mod, Nat.mod_eq_of_lt hs, e]
    exact hK

/-- Among few nodes one is met again and again. -/
theorem met_often {q : Nat → Nat} {P : Nat → Prop} {n : Nat} (hn : ∀ t, q t < n) (h : ∀ t, ∃ t', t ≤ t' ∧ P (q t')) : ∃ v, v < n ∧ P v ∧ ∀ t, ∃ t', t ≤ t' ∧ q t' = v := by
  refine Classical.byContradiction fun hc => ?_
  have key : ∀ j, j ≤ n → ∃ T, ∀ t, T ≤ t → ∀ v, v < j → P v → q t ≠ v := by
    intro j
    induction j with
    | zero => intro _; exact ⟨0, fun t _ v hv => by omega⟩
    | succ j ih =>
      intro hj
      obtain ⟨T, hT⟩ := ih (by omega)
      by_cases hP : P j
      · have : ∃ T', ∀ t, T' ≤ t → q t ≠ j := Classical.byContradiction fun hx => hc ⟨j, by omega, hP, fun t => Classical.byContradiction fun hy => hx ⟨t, fun t' ht e => hy ⟨t', ht, e⟩⟩⟩
        obtain ⟨T', hT'⟩ := this
        refine ⟨max T T', fun t ht v hv hPv => ?_⟩
        by_cases e : v = j
        · subst e; exact hT' t (by omega)
        · exact hT t (by omega) v (by omega) hPv
      · refine ⟨T, fun t ht v hv hPv => ?_⟩
        by_cases e : v = j
        · subst e; exact absurd hPv hP
        · exact hT t ht v (by omega) hPv
  obtain ⟨T, hT⟩ := key n (Nat.le_refl _)
  obtain ⟨t', ht, hp⟩ := h T
  exact hT t' ht (q t') (hn t') hp rfl

theorem path_good {E : Nat → Nat → Prop} {K : Nat → Nat → Prop} {m n : Nat} {q : Nat → Nat} (hq : Path E q) (hn : ∀ t, q t < n) (hm : Meets K m q) : ∃ c, c < n ∧ reach E (q 0) c ∧ GoodN E K m c := by
  obtain ⟨c, hc, _, hv⟩ := met_often (P := fun _ => True) hn (fun t => ⟨t, Nat.le_refl _, trivial⟩)
  have to : ∀ s v, (∀ t, ∃ t', t ≤ t' ∧ q t' = v) → reach E (q s) v := by
    intro s v hv
    obtain ⟨t', ht, e⟩ := hv (s + 1)
    obtain ⟨d, rfl⟩ : ∃ d, t' = s + d + 1 := ⟨t' - s - 1, by omega⟩
    rw [← e]
    exact walk_reach hq s d
  have back : ∀ u v, (∀ t, ∃ t', t ≤ t' ∧ q t' = u) → (∀ t, ∃ t', t ≤ t' ∧ q t' = v) → reach E u v := by
    intro u v hu hv
    obtain ⟨s, _, e⟩ := hu 0
    rw [← e]
    exact to s v hv
  refine ⟨c, hc, to 0 c hv, back c c hv hv, fun k hk => ?_⟩
  obtain ⟨i, _, hK, hi⟩ := met_often (P := K k) hn (hm k hk)
  exact ⟨i, back c i hv hi, back i c hi hv, hK⟩

/-- From a node an endless path goes that meets all marks just if it gets to a good one. -/
theorem endless_iff {E : Nat → Nat → Prop} {K : Nat → Nat → Prop} {m n a : Nat} (hE : ∀ a b, E a b → b < n) (ha : a < n) : (∃ q, q 0 = a ∧ Path E q ∧ Meets K m q) ↔ ∃ c, c < n ∧ reach E a c ∧ GoodN E K m c := by
  constructor
  · rintro ⟨q, q0, hq, hm⟩
    have hn : ∀ t, q t < n := fun t => by
      cases t with
      | zero => rw [q0]; exact ha
      | succ t => exact hE _ _ (hq t)
    obtain ⟨c, h1, h2, h3⟩ := path_good hq hn hm
    rw [q0] at h2
    exact ⟨c, h1, h2, h3⟩
  · rintro ⟨c, _, ⟨L, h1⟩, h2⟩
    obtain ⟨p, hp⟩ := walk_of _ _ _ h1
    obtain ⟨q, q0, hq, hm, _⟩ := good_path h2
    refine ⟨joinW p q (L + 1), ?_, ?_, ?_⟩
    · unfold joinW; rw [if_pos (by omega)]; exact hp.1
    · intro t
      unfold joinW
      by_cases h3 : t + 1 < L + 1
      · rw [if_pos (by omega), if_pos h3]; exact hp.2.2 t (by omega)
      · rw [if_neg h3]
        by_cases h4 : t < L + 1
        · have e : t + 1 = L + 1 := by omega
          rw [if_pos h4, e, Nat.sub_self, q0]
          have := hp.2.2 t h4
          rw [e, hp.2.1] at this
          exact this
        · rw [if_neg h4, show t + 1 - (L + 1) = (t - (L + 1)) + 1 by omega]; exact hq _
    · intro k hk t
      obtain ⟨t', ht, h3⟩ := hm k hk t
      refine ⟨L + 1 + t', by omega, ?_⟩
      unfold joinW
      rw [if_neg (by omega), Nat.add_sub_cancel_left]; exact h3

end Go.Proofs.Ytjagijohfkffiab

/- Plain mathematics: looking through a graph, as the reference does. -/
namespace Go.Proofs.Ytjagijohfkffiab

theorem nodup_le : ∀ (n : Nat) (l : List Nat), l.Nodup → (∀ b ∈ l, b < n) → l.length ≤ n
  | 0, l, _, h => by
    cases l with
    | nil => exact Nat.le_refl _
    | cons b l => exact absurd (h b (List.mem_cons_self ..)) (by omega)
  | n + 1, l, hd, h => by
    have h1 := nodup_le n (l.erase n) (hd.erase n) (fun b hb => by
      have hb2 := (List.Nodup.mem_erase_iff hd).1 hb
      have := h b hb2.2
      omega)
    have h2 : l.length ≤ (l.erase n).length + 1 := by rw [List.length_erase]; split <;> omega
    omega

def upd (f : Nat → Bool) (b : Nat) (v : Bool) : Nat → Bool := fun i => if i = b then v else f i

/-- What has been met from 'at' on; 'seen' marks all but 'at' itself, which it marks if one comes back. -/
structure Bfs (E : Nat → Nat → Prop) (n at0 : Nat) (todo : List Nat) (seen : Nat → Bool) : Prop where
  parts : ∃ rest, todo = at0 :: rest ∧ rest.Nodup ∧ (∀ b, seen b = true ↔ b ∈ rest) ∧ ∀ b ∈ rest, reach E at0 b ∧ b < n

theorem bfs_start (E : Nat → Nat → Prop) (n at0 : Nat) : Bfs E n at0 [at0] (fun _ => false) := ⟨[], rfl, List.nodup_nil, fun b => by simp, fun b hb => by simp at hb⟩

theorem Bfs.len {E : Nat → Nat → Prop} {n at0 : Nat} {todo : List Nat} {seen : Nat → Bool} (h : Bfs E n at0 todo seen) : todo.length ≤ n + 1 := by
  obtain ⟨rest, rfl, h1, _, h3⟩ := h.parts
  have := nodup_le n rest h1 (fun b hb => (h3 b hb).2)
  simp; omega
theorem Bfs.mem {E : Nat → Nat → Prop} {n at0 : Nat} {todo : List Nat} {seen : Nat → Bool} (h : Bfs E n at0 todo seen) {a : Nat} (ha : a ∈ todo) : a = at0 ∨ (reach E at0 a ∧ a < n) := by
  obtain ⟨rest, rfl, _, _, h3⟩ := h.parts
  rcases List.mem_cons.1 ha with rfl | ha
  · exact Or.inl rfl
  · exact Or.inr (h3 a ha)

theorem bfs_add {E : Nat → Nat → Prop} {n at0 : Nat} {todo : List Nat} {seen : Nat → Bool} (h : Bfs E n at0 todo seen) {a b : Nat} (ha : a ∈ todo) (he : E a b) (hb : b < n) (hs : seen b = false) : Bfs E n at0 (todo ++ [b]) (upd seen b true) := by
  have hm := h.mem ha
  obtain ⟨rest, rfl, h1, h2, h3⟩ := h.parts
  have hnb : b ∉ rest := fun hx => by rw [(h2 b).2 hx] at hs; simp at hs
  have hr : reach E at0 b := by
    rcases hm with rfl | ⟨hm, _⟩
    · exact reach_edge he
    · exact reach_trans hm (reach_edge he)
  refine ⟨rest ++ [b], rfl, ?_, fun c => ?_, fun c hc => ?_⟩
  · rw [List.nodup_append]
    refine ⟨h1, by simp, fun x hx y hy e => ?_⟩
    simp at hy
    subst hy
    subst e
    exact hnb hx
  · unfold upd
    by_cases e : c = b
    · subst e; simp
    · rw [if_neg e, h2 c]; simp [e]
  · rcases List.mem_append.1 hc with hc | hc
    · exact h3 c hc
    · simp at hc
      subst hc
      exact ⟨hr, hb⟩

theorem bfs_done {E : Nat → Nat → Prop} {n at0 : Nat} {todo : List Nat} {seen : Nat → Bool} (h : Bfs E n at0 todo seen) (hall : ∀ a ∈ todo, ∀ b, E a b → seen b = true) (b : Nat) : seen b = true ↔ reach E at0 b := by
  obtain ⟨rest, rfl, h1, h2, h3⟩ := h.parts
  constructor
  · intro hb; exact (h3 b ((h2 b).1 hb)).1
  · rintro ⟨L, hL⟩
    have key : ∀ L a, a ∈ at0 :: rest → reachN E (L + 1) a b → seen b = true := by
      intro L
      induction L with
      | zero =>
        rintro a ha ⟨c, he, hc⟩
        cases hc
        exact hall a ha _ he
      | succ L ih =>
        rintro a ha ⟨c, he, hc⟩
        have hs := hall a ha c he
        exact ih c (List.mem_cons_of_mem _ ((h2 c).1 hs)) hc
    exact key L at0 (List.mem_cons_self ..) hL

theorem reach_turned {E : Nat → Nat → Prop} {a b : Nat} : reach (fun x y => E y x) a b ↔ reach E b a := by
  have key : ∀ (E : Nat → Nat → Prop) L a b, reachN E L a b → reachN (fun x y => E y x) L b a := by
    intro E L
    induction L with
    | zero => intro a b h; exact h.symm
    | succ L ih =>
      rintro a b ⟨c, he, hc⟩
      have h1 := ih c b hc
      exact reachN_add L 1 b c a h1 ⟨a, he, rfl⟩
  exact ⟨fun ⟨L, h⟩ => ⟨L, key _ _ _ _ h⟩, fun ⟨L, h⟩ => ⟨L, key _ _ _ _ h⟩⟩

/-- On a ring one has another one of it ahead, and another one behind. -/
theorem ring_next {E : Nat → Nat → Prop} {c : Nat} (h : reach E c c) : (∃ d, E c d ∧ reach E d d) ∧ ∃ d, E d c ∧ reach E d d := by
  have one : ∀ {E : Nat → Nat → Prop} {c : Nat}, reach E c c → ∃ d, E c d ∧ reach E d d := by
    rintro E c ⟨L, d, he, hd⟩
    refine ⟨d, he, ?_⟩
    cases L with
    | zero => cases hd; exact reach_edge he
    | succ L => exact reach_trans ⟨L, hd⟩ (reach_edge he)
  refine ⟨one h, ?_⟩
  obtain ⟨d, h1, h2⟩ := one (reach_turned.2 h)
  exact ⟨d, h1, reach_turned.1 h2⟩

theorem good_scc {E : Nat → Nat → Prop} {K : Nat → Nat → Prop} {m c i : Nat} (h1 : reach E c i) (h2 : reach E i c) (h : GoodN E K m c) : GoodN E K m i := by
  refine ⟨reach_trans h2 h1, fun k hk => ?_⟩
  obtain ⟨j, a, b, d⟩ := h.2 k hk
  exact ⟨j, reach_trans h2 a, reach_trans b h1, d⟩

end Go.Proofs.Ytjagijohfkffiab

/- Groups of views: rows of 256 bools in memory. -/
namespace Go.Proofs.Ytjagijohfkffiab
open Go.RowKit
set_option linter.unusedVariables false

/-- A group as the cells of a value. -/
def gv (g : Nat → Bool) : List Value := (List.range 256).map fun j => .bool (g j)
theorem gv_len (g : Nat → Bool) : (gv g).length = 256 := by simp [gv]
theorem gv_get (g : Nat → Bool) {j : Nat} (h : j < 256) : (gv g)[j]? = some (.bool (g j)) := by simp [gv, h]
theorem gv_one (g : Nat → Bool) : ∀ v ∈ gv g, v.oneCell' = true := by
  intro v hv
  simp only [gv, List.mem_map] at hv
  obtain ⟨j, _, rfl⟩ := hv
  rfl
theorem gv_congr {g h : Nat → Bool} (e : ∀ j, j < 256 → g j = h j) : gv g = gv h := by
  unfold gv
  refine List.map_congr_left fun j hj => ?_
  rw [e j (by simpa using hj)]
/-- A group in memory, at an offset of a block, that may be written. -/
structure GrpAt (w : World) (b o : Nat) (g : Nat → Bool) : Prop where
  c : ∀ j, j < 256 → w.cell? ⟨b, o + j, none⟩ = some (.bool (g j))
  f : ∀ j, j < 256 → w.frozen? ⟨b, o + j, none⟩ = false

theorem GrpAt.rng {w : World} {b o : Nat} {g : Nat → Bool} (h : GrpAt w b o g) : w.rangeAt b o (gv g) := fun j v hv => by
  have hj : j < 256 := by have := (List.getElem?_eq_some_iff.1 hv).1; rwa [gv_len] at this
  rw [gv_get g hj] at hv
  rw [h.c j hj, hv]
theorem GrpAt.there {w : World} {b o : Nat} {g : Nat → Bool} (h : GrpAt w b o g) : w.there b o 256 := fun j hj => ⟨by rw [h.c j hj]; rfl, h.f j hj⟩
theorem GrpAt.lt {w : World} {b o : Nat} {g : Nat → Bool} (h : GrpAt w b o g) : b < w.heap.size := World.block_lt_of_cell? w ⟨b, o + 0, none⟩ (h.c 0 (by omega))
theorem GrpAt.below {B : Nat} {w w' : World} {b o : Nat} {g : Nat → Bool} (h : GrpAt w b o g) (hb : Below B w w') (hlt : b < B) : GrpAt w' b o g :=
  ⟨fun j hj => (hb.cell (p := ⟨b, o + j, none⟩) hlt).trans (h.c j hj), fun j hj => (hb.frozen (p := ⟨b, o + j, none⟩) hlt).trans (h.f j hj)⟩
theorem GrpAt.alloc {w : World} {b o : Nat} {g : Nat → Bool} (h : GrpAt w b o g) (ob : Obj) : GrpAt (w.alloc ob) b o g := by
  have hl := h.lt
  refine ⟨fun j hj => ?_, fun j hj => ?_⟩
  · rw [World.cell?_alloc_lt _ _ _ hl]; exact h.c j hj
  · rw [World.frozen?_alloc_past _ _ _ hl]; exact h.f j hj
theorem GrpAt.drew {w : World} {b o : Nat} {g : Nat → Bool} (h : GrpAt w b o g) : GrpAt w.drew b o g := ⟨h.c, h.f⟩
theorem GrpAt.congr {w : World} {b o : Nat} {g g' : Nat → Bool} (h : GrpAt w b o g) (e : ∀ j, j < 256 → g j = g' j) : GrpAt w b o g' :=
  ⟨fun j hj => by rw [h.c j hj, e j hj], h.f⟩
theorem GrpAt.set {w : World} {b o : Nat} {g : Nat → Bool} (h : GrpAt w b o g) {i : Nat} (hi : i < 256) (v : Bool) : GrpAt (w.setCell ⟨b, o + i, none⟩ (.bool v)) b o (upd g i v) := by
  refine ⟨fun j hj => ?_, fun j hj => by rw [World.frozen?_setCell]; exact h.f j hj⟩
  by_cases e : j = i
  · subst e
    rw [World.cell?_setCell_same _ _ _ (h.c j hj)]
    simp [upd]
  · rw [World.cell?_setCell_other _ ⟨b, o + i, none⟩ ⟨b, o + j, none⟩ _ (fun q => e (by have := congrArg Addr.off q; simp at this; omega)), h.c j hj]
    simp [upd, e]
theorem GrpAt.other {w : World} {b o : Nat} {g : Nat → Bool} (h : GrpAt w b o g) (p : Addr) (v : Value) (hp : p.block ≠ b ∨ p.off < o ∨ o + 256 ≤ p.off) : GrpAt (w.setCell p v) b o g := by
  refine ⟨fun j hj => ?_, fun j hj => by rw [World.frozen?_setCell]; exact h.f j hj⟩
  rw [World.cell?_setCell_other _ _ _ _ (fun e => by subst e; simp at hp; omega)]
  exact h.c j hj
theorem grp_stored {w : World} {b o : Nat} (h : w.there b o 256) (g : Nat → Bool) : GrpAt (w.setCells b o (gv g)) b o g := by
  have h1 := World.rangeAt_setCells_same w b o (gv g) (by rw [gv_len]; exact h)
  refine ⟨fun j hj => h1 j _ (gv_get g hj), fun j hj => by rw [World.frozen?_setCells]; exact (h j hj).2⟩
theorem GrpAt.apart {w : World} {b o : Nat} {g : Nat → Bool} (h : GrpAt w b o g) (b' o' : Nat) (vs : List Value) (hp : b ≠ b' ∨ o + 256 ≤ o' ∨ o' + vs.length ≤ o) : GrpAt (w.setCells b' o' vs) b o g := by
  refine ⟨fun j hj => ?_, fun j hj => by rw [World.frozen?_setCells]; exact h.f j hj⟩
  exact World.rangeAt_setCells_apart h.rng b' o' vs (by rw [gv_len]; exact hp) j _ (gv_get g hj)
theorem grp_new (w : World) (g : Nat → Bool) (t : TypeId) : GrpAt (w.alloc (.cells (gv g).toArray t)) w.heap.size 0 g := by
  refine ⟨fun j hj => ?_, fun j hj => ?_⟩
  · have := cell_of_row (w.alloc (.cells (gv g).toArray t)) w.heap.size (0 + j) (gv g).toArray t (0, 0) (heap_alloc_last w _)
    rw [this]
    simp [gv, hj]
  · simp

theorem Try.groupCells : Try.zeroCells69 = (gv fun _ => false).toArray := by kernel_rfl
theorem Try.groupSize : (Try.prog.info? 69).map (·.size) = some 256 := by kernel_rfl
theorem Try.groupUnder : Try.prog.underlying 69 = some (.array 256 4) := Try.underlying69
theorem Try.groupSz (g : Nat → Bool) : (Try.prog.info? 69).map (·.size) = some (gv g).length := by rw [gv_len]; exact Try.groupSize
theorem Try.groupSa (g : Nat → Bool) : (Try.prog.info? 69).map (·.size) = some (gv g).toArray.size := by simp only [List.size_toArray]; exact Try.groupSz g
theorem zero_new (w : World) : GrpAt (w.alloc (.cells Try.zeroCells69 69)) w.heap.size 0 (fun _ => false) := by rw [Try.groupCells]; exact grp_new w _ _

theorem below_setCells {B : Nat} {a : World} {b : Nat} (hb : B ≤ b) : ∀ (vs : List Value) (o : Nat) (w : World), Below B a w → Below B a (w.setCells b o vs)
  | [], _, _, h => h
  | v :: r, o, w, h => by
    rw [World.setCells]
    exact below_setCells hb r (o + 1) _ (h.setCell (p := ⟨b, o, none⟩) hb v)
theorem size_setCells (b : Nat) : ∀ (vs : List Value) (o : Nat) (w : World), (w.setCells b o vs).heap.size = w.heap.size
  | [], _, _ => rfl
  | v :: r, o, w => by
    rw [World.setCells, size_setCells b r (o + 1) _]
    simp [World.setCell]

theorem results_one_cell {fn : Func} {p : Tmp} {ty : TypeId} (h : fn.results = #[.cell p ty]) (tmps : Array Value) (P : Program) (w : World) :
    (results fn tmps).run P w = ((asAddr (tmps.getD p undef)).run P w).andThen fun a w₁ => (loadVar ty a).run P w₁ := by
  simp only [results, h]
  simp [Sem.run_bind, Result.andThen]

/-- A group is handed back through a cell. -/
theorem ret_group {fn : Func} {c b o : Nat} {g : Nat → Bool} {a : Act} {w : World} {R : Ending → World → Prop} (h : fn.results = #[.cell c 69]) (hd : a.defers = []) (hp : a.tmps.getD c undef = .pointer (some ⟨b, o, none⟩))
    (hg : GrpAt w b o g) (hR : R (.returned (.agg (gv g).toArray)) w) : bodyPost Try.prog fn R .ret a w := by
  refine bodyPost_ret (v := .agg (gv g).toArray) ?_ hd hR
  rw [results_one_cell h, hp]
  simp only [asAddr, Sem.run_pure, Result.andThen_ok]
  exact run_loadVar_mid w b o _ (gv g) _ hg.rng Try.groupUnder rfl (Try.groupSz g)

/-- A group was stored: what is there, what stayed. -/
structure StoredG (w : World) (b o : Nat) (g : Nat → Bool) (w1 : World) : Prop where
  at_ : GrpAt w1 b o g
  size : w1.heap.size = w.heap.size
  bel : ∀ B a, B ≤ b → Below B a w → Below B a w1
  cell : ∀ p : Addr, (p.block ≠ b ∨ p.off < o ∨ o + 256 ≤ p.off) → w1.cell? p = w.cell? p
  fz : ∀ p, w1.frozen? p = w.frozen? p

theorem storedG {w : World} {b o : Nat} (h : w.there b o 256) (g : Nat → Bool) : StoredG w b o g (w.setCells b o (gv g)) := by
  refine ⟨grp_stored h g, size_setCells _ _ _ _, fun B a hB hb => below_setCells hB _ _ _ hb, fun p hp => ?_, fun p => World.frozen?_setCells _ _ _ _ _⟩
  rw [World.cell?_setCells_out b (gv g) o w p (fun hb _ => by rw [gv_len]; omega)]

theorem StoredG.grp {w w1 : World} {b o : Nat} {g : Nat → Bool} (h : StoredG w b o g w1) {b' o' : Nat} {g' : Nat → Bool} (k : GrpAt w b' o' g') (hp : b' ≠ b ∨ o' + 256 ≤ o ∨ o + 256 ≤ o') : GrpAt w1 b' o' g' :=
  ⟨fun j hj => by rw [h.cell ⟨b', o' + j, none⟩ (by simp; omega)]; exact k.c j hj, fun j hj => by rw [h.fz]; exact k.f j hj⟩

theorem wpList_store_grp {ops : Array Oper} {rest : List Oper} {op : Oper} {a : Act} {w : World} {Q : Exit → Act → World → Prop} (hgd : op.guard = none) (x y : Operand) (ho : op.op = .store 69 x y)
    (b o : Nat) (g : Nat → Bool) (hx : a.eval x = .pointer (some ⟨b, o, none⟩)) (hy : a.eval y = .agg (gv g).toArray) (ht : w.there b o 256)
    (h : ∀ w1, StoredG w b o g w1 → wpList Try.prog ops Q rest (a.put op.dst undef) w1) : wpList Try.prog ops Q (op :: rest) a w := by
  refine wpList_store_mid hgd 69 x y ho b o (gv g).toArray hx hy (by simp only [List.size_toArray, gv_len]; exact ht) (Try.groupSa g) (all_oneCell_toArray (gv_one g)) ?_
  exact h _ (storedG ht g)

theorem wpList_load_grp {ops : Array Oper} {rest : List Oper} {op : Oper} {a : Act} {w : World} {Q : Exit → Act → World → Prop} (hgd : op.guard = none) (x : Operand) (ho : op.op = .load 69 x)
    (b o : Nat) (g : Nat → Bool) (hx : a.eval x = .pointer (some ⟨b, o, none⟩)) (hg : GrpAt w b o g)
    (h : wpList Try.prog ops Q rest (a.put op.dst (.agg (gv g).toArray)) w) : wpList Try.prog ops Q (op :: rest) a w :=
  wpList_load_mid hgd 69 x ho b o hx (gv g) _ hg.rng Try.groupUnder rfl (Try.groupSz g) h

end Go.Proofs.Ytjagijohfkffiab
