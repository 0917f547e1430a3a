/- Plain mathematics: looking through a graph, as the reference does. -/
import Derived.Test.YtjagijohfkffiaaGraphs
namespace Go.Proofs.Ytjagijohfkffiaa

theorem nodup_le : ∀ (n : Nat) (l : List Nat), l.Nodup → (∀ b ∈ l, b < n) → l.length ≤ n
  | 0, l, _, h => by
    cases l with
    | nil => exact Nat.le_refl _
    | cons b l => exact absurd (h b (List.mem_cons_self ..)) (by omega)
  | n + 1, l, hd, h => by
    have h1 := nodup_le n (l.erase n) (hd.erase n) (fun b hb => by
      have hb2 := (List.Nodup.mem_erase_iff hd).1 hb
      have := h b hb2.2
      omega)
    have h2 : l.length ≤ (l.erase n).length + 1 := by rw [List.length_erase]; split <;> omega
    omega

def upd (f : Nat → Bool) (b : Nat) (v : Bool) : Nat → Bool := fun i => if i = b then v else f i

/-- What has been met from 'at' on; 'seen' marks all but 'at' itself, which it marks if one comes back. -/
structure Bfs (E : Nat → Nat → Prop) (n at0 : Nat) (todo : List Nat) (seen : Nat → Bool) : Prop where
  parts : ∃ rest, todo = at0 :: rest ∧ rest.Nodup ∧ (∀ b, seen b = true ↔ b ∈ rest) ∧ ∀ b ∈ rest, reach E at0 b ∧ b < n

theorem bfs_start (E : Nat → Nat → Prop) (n at0 : Nat) : Bfs E n at0 [at0] (fun _ => false) := ⟨[], rfl, List.nodup_nil, fun b => by simp, fun b hb => by simp at hb⟩

theorem Bfs.len {E : Nat → Nat → Prop} {n at0 : Nat} {todo : List Nat} {seen : Nat → Bool} (h : Bfs E n at0 todo seen) : todo.length ≤ n + 1 := by
  obtain ⟨rest, rfl, h1, _, h3⟩ := h.parts
  have := nodup_le n rest h1 (fun b hb => (h3 b hb).2)
  simp; omega
theorem Bfs.mem {E : Nat → Nat → Prop} {n at0 : Nat} {todo : List Nat} {seen : Nat → Bool} (h : Bfs E n at0 todo seen) {a : Nat} (ha : a ∈ todo) : a = at0 ∨ (reach E at0 a ∧ a < n) := by
  obtain ⟨rest, rfl, _, _, h3⟩ := h.parts
  rcases List.mem_cons.1 ha with rfl | ha
  · exact Or.inl rfl
  · exact Or.inr (h3 a ha)

theorem bfs_add {E : Nat → Nat → Prop} {n at0 : Nat} {todo : List Nat} {seen : Nat → Bool} (h : Bfs E n at0 todo seen) {a b : Nat} (ha : a ∈ todo) (he : E a b) (hb : b < n) (hs : seen b = false) : Bfs E n at0 (todo ++ [b]) (upd seen b true) := by
  have hm := h.mem ha
  obtain ⟨rest, rfl, h1, h2, h3⟩ := h.parts
  have hnb : b ∉ rest := fun hx => by rw [(h2 b).2 hx] at hs; simp at hs
  have hr : reach E at0 b := by
    rcases hm with rfl | ⟨hm, _⟩
    · exact reach_edge he
    · exact reach_trans hm (reach_edge he)
  refine ⟨rest ++ [b], rfl, ?_, fun c => ?_, fun c hc => ?_⟩
  · rw [List.nodup_append]
    refine ⟨h1, by simp, fun x hx y hy e => ?_⟩
    simp at hy
    subst hy
    subst e
    exact hnb hx
  · unfold upd
    by_cases e : c = b
    · subst e; simp
    · rw [if_neg e, h2 c]; simp [e]
  · rcases List.mem_append.1 hc with hc | hc
    · exact h3 c hc
    · simp at hc
      subst hc
      exact ⟨hr, hb⟩

theorem bfs_done {E : Nat → Nat → Prop} {n at0 : Nat} {todo : List Nat} {seen : Nat → Bool} (h : Bfs E n at0 todo seen) (hall : ∀ a ∈ todo, ∀ b, E a b → seen b = true) (b : Nat) : seen b = true ↔ reach E at0 b := by
  obtain ⟨rest, rfl, h1, h2, h3⟩ := h.parts
  constructor
  · intro hb; exact (h3 b ((h2 b).1 hb)).1
  · rintro ⟨L, hL⟩
    have key : ∀ L a, a ∈ at0 :: rest → reachN E (L + 1) a b → seen b = true := by
      intro L
      induction L with
      | zero =>
        rintro a ha ⟨c, he, hc⟩
        cases hc
        exact hall a ha _ he
      | succ L ih =>
        rintro a ha ⟨c, he, hc⟩
        have hs := hall a ha c he
        exact ih c (List.mem_cons_of_mem _ ((h2 c).1 hs)) hc
    exact key L at0 (List.mem_cons_self ..) hL

theorem reach_turned {E : Nat → Nat → Prop} {a b : Nat} : reach (fun x y => E y x) a b ↔ reach E b a := by
  have key : ∀ (E : Nat → Nat → Prop) L a b, reachN E L a b → reachN (fun x y => E y x) L b a := by
    intro E L
    induction L with
    | zero => intro a b h; exact h.symm
    | succ L ih =>
      rintro a b ⟨c, he, hc⟩
      have h1 := ih c b hc
      exact reachN_add L 1 b c a h1 ⟨a, he, rfl⟩
  exact ⟨fun ⟨L, h⟩ => ⟨L, key _ _ _ _ h⟩, fun ⟨L, h⟩ => ⟨L, key _ _ _ _ h⟩⟩

/-- On a ring one has another one of it ahead, and another one behind. -/
theorem ring_next {E : Nat → Nat → Prop} {c : Nat} (h : reach E c c) : (∃ d, E c d ∧ reach E d d) ∧ ∃ d, E d c ∧ reach E d d := by
  have one : ∀ {E : Nat → Nat → Prop} {c : Nat}, reach E c c → ∃ d, E c d ∧ reach E d d := by
    rintro E c ⟨L, d, he, hd⟩
    refine ⟨d, he, ?_⟩
    cases L with
    | zero => cases hd; exact reach_edge he
    | succ L => exact reach_trans ⟨L, hd⟩ (reach_edge he)
  refine ⟨one h, ?_⟩
  obtain ⟨d, h1, h2⟩ := one (reach_turned.2 h)
  exact ⟨d, h1, reach_turned.1 h2⟩

theorem good_scc {E : Nat → Nat → Prop} {K : Nat → Nat → Prop} {m c i : Nat} (h1 : reach E c i) (h2 : reach E i c) (h : GoodN E K m c) : GoodN E K m i := by
  refine ⟨reach_trans h2 h1, fun k hk => ?_⟩
  obtain ⟨j, a, b, d⟩ := h.2 k hk
  exact ⟨j, reach_trans h2 a, reach_trans b h1, d⟩

end Go.Proofs.Ytjagijohfkffiaa
