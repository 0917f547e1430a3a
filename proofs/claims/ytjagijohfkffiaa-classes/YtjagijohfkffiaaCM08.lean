import Derived.Test.YtjagijohfkffiaaCM07
import Derived.RowKit
import Derived.Deep.QuietTactic
import Derived.BigQuiet

/- Plain mathematics: endless paths in finite graphs that meet each of some marks again and again. -/
namespace Go.Proofs.Ytjagijohfkffiaa

def reachN (E : Nat → Nat → Prop) : Nat → Nat → Nat → Prop
  | 0, a, b => a = b
  | L + 1, a, b => ∃ c, E a c ∧ reachN E L c b

/-- With one step at least. -/
def reach (E : Nat → Nat → Prop) (a b : Nat) : Prop := ∃ L, reachN E (L + 1) a b

theorem reachN_add {E : Nat → Nat → Prop} : ∀ (L M a b c : Nat), reachN E L a b → reachN E M b c → reachN E (L + M) a c
  | 0, M, a, b, c, h, k => by cases h; rw [Nat.zero_add]; exact k
  | L + 1, M, a, b, c, ⟨d, h1, h2⟩, k => by
    rw [show L + 1 + M = L + M + 1 by omega]
    exact ⟨d, h1, reachN_add L M d b c h2 k⟩

theorem reach_trans {E : Nat → Nat → Prop} {a b c : Nat} (h : reach E a b) (k : reach E b c) : reach E a c := by
  obtain ⟨L, h⟩ := h
  obtain ⟨M, k⟩ := k
  exact ⟨L + M + 1, by rw [show L + M + 1 + 1 = (L + 1) + (M + 1) by omega]; exact reachN_add _ _ _ _ _ h k⟩
theorem reach_edge {E : Nat → Nat → Prop} {a b : Nat} (h : E a b) : reach E a b := ⟨0, b, h, rfl⟩
theorem reach_cons {E : Nat → Nat → Prop} {a b c : Nat} (h : E a b) (k : reach E b c) : reach E a c := reach_trans (reach_edge h) k

/-- A walk of L steps. -/
def Walk (E : Nat → Nat → Prop) (p : Nat → Nat) (L a b : Nat) : Prop := p 0 = a ∧ p L = b ∧ ∀ i, i < L → E (p i) (p (i + 1))

theorem walk_of {E : Nat → Nat → Prop} : ∀ (L a b : Nat), reachN E L a b → ∃ p, Walk E p L a b
  | 0, a, b, h => ⟨fun _ => a, rfl, h, fun i hi => by omega⟩
  | L + 1, a, b, ⟨c, h1, h2⟩ => by
    obtain ⟨p, p0, pL, pe⟩ := walk_of L c b h2
    refine ⟨fun i => match i with | 0 => a | i + 1 => p i, rfl, pL, fun i hi => ?_⟩
    cases i with
    | zero => show E a (p 0); rw [p0]; exact h1
    | succ i => exact pe i (by omega)

theorem walk_reach {E : Nat → Nat → Prop} {p : Nat → Nat} (h : ∀ t, E (p t) (p (t + 1))) (s d : Nat) : reach E (p s) (p (s + d + 1)) := by
  induction d with
  | zero => exact reach_edge (h s)
  | succ d ih => exact reach_trans ih (reach_edge (h (s + d + 1)))

/-- Two walks, one behind the other. -/
def joinW (p q : Nat → Nat) (L : Nat) (i : Nat) : Nat := if i < L then p i else q (i - L)
theorem walk_join {E : Nat → Nat → Prop} {p q : Nat → Nat} {L M a b c : Nat} (h : Walk E p L a b) (k : Walk E q M b c) : Walk E (joinW p q L) (L + M) a c := by
  obtain ⟨h0, hL, he⟩ := h
  obtain ⟨k0, kM, ke⟩ := k
  refine ⟨?_, ?_, fun i hi => ?_⟩
  · unfold joinW
    by_cases h : 0 < L
    · rw [if_pos h]; exact h0
    · rw [if_neg h]
      have : L = 0 := by omega
      subst this
      rw [Nat.sub_self, k0, ← hL, h0]
  · unfold joinW
    rw [if_neg (by omega), Nat.add_sub_cancel_left]; exact kM
  · unfold joinW
    by_cases h1 : i + 1 < L
    · rw [if_pos (by omega), if_pos h1]; exact he i (by omega)
    · rw [if_neg h1]
      by_cases h2 : i < L
      · have e : i + 1 = L := by omega
        rw [if_pos h2, e, Nat.sub_self, k0, ← hL, ← e]; exact he i h2
      · rw [if_neg h2, show i + 1 - L = (i - L) + 1 by omega]; exact ke (i - L) (by omega)

/-- A ring through all that is listed. -/
theorem ring_through {E : Nat → Nat → Prop} {c : Nat} (hc : reach E c c) : ∀ l : List Nat, (∀ i ∈ l, reach E c i ∧ reach E i c) → ∃ p L, 0 < L ∧ Walk E p L c c ∧ ∀ i ∈ l, ∃ s, s < L ∧ p s = i
  | [], _ => by
    obtain ⟨L, h⟩ := hc
    obtain ⟨p, hp⟩ := walk_of _ _ _ h
    exact ⟨p, L + 1, by omega, hp, fun i hi => by simp at hi⟩
  | i :: l, hl => by
    obtain ⟨p, L, hL, hp, hm⟩ := ring_through hc l (fun j hj => hl j (List.mem_cons_of_mem _ hj))
    obtain ⟨⟨M, h1⟩, ⟨M', h2⟩⟩ := hl i (List.mem_cons_self ..)
    obtain ⟨q, hq⟩ := walk_of _ _ _ h1
    obtain ⟨r, hr⟩ := walk_of _ _ _ h2
    have hqr := walk_join hq hr
    refine ⟨joinW p (joinW q r (M + 1)) L, L + (M + 1 + (M' + 1)), by omega, walk_join hp hqr, fun j hj => ?_⟩
    rcases List.mem_cons.1 hj with rfl | hj
    · refine ⟨L + (M + 1), by omega, ?_⟩
      unfold joinW
      rw [if_neg (by omega), Nat.add_sub_cancel_left, if_neg (by omega), Nat.sub_self]
      exact hr.1
    · obtain ⟨s, hs, e⟩ := hm j hj
      refine ⟨s, by omega, ?_⟩
      unfold joinW
      rw [if_pos hs]; exact e

/-- An endless path. -/
def Path (E : Nat → Nat → Prop) (q : Nat → Nat) : Prop := ∀ t, E (q t) (q (t + 1))
/-- It meets each of the m marks again and again. -/
def Meets (K : Nat → Nat → Prop) (m : Nat) (q : Nat → Nat) : Prop := ∀ k, k < m → ∀ t, ∃ t', t ≤ t' ∧ K k (q t')

def GoodN (E : Nat → Nat → Prop) (K : Nat → Nat → Prop) (m c : Nat) : Prop := reach E c c ∧ ∀ k, k < m → ∃ i, reach E c i ∧ reach E i c ∧ K k i

theorem marks_list {E : Nat → Nat → Prop} {K : Nat → Nat → Prop} {c : Nat} : ∀ m, (∀ k, k < m → ∃ i, reach E c i ∧ reach E i c ∧ K k i) → ∃ l : List Nat, (∀ i ∈ l, reach E c i ∧ reach E i c) ∧ ∀ k, k < m → ∃ i ∈ l, K k i
  | 0, _ => ⟨[], fun i hi => by simp at hi, fun k hk => by omega⟩
  | m + 1, h => by
    obtain ⟨l, h1, h2⟩ := marks_list m (fun k hk => h k (by omega))
    obtain ⟨i, a, b, d⟩ := h m (by omega)
    refine ⟨i :: l, fun j hj => ?_, fun k hk => ?_⟩
    · rcases List.mem_cons.1 hj with rfl | hj
      · exact ⟨a, b⟩
      · exact h1 j hj
    · by_cases e : k = m
      · subst e; exact ⟨i, List.mem_cons_self .., d⟩
      · obtain ⟨j, hj, hk2⟩ := h2 k (by omega)
        exact ⟨j, List.mem_cons_of_mem _ hj, hk2⟩

/-- Round and round. -/
theorem ring_path {E : Nat → Nat → Prop} {p : Nat → Nat} {L c : Nat} (hL : 0 < L) (h : Walk E p L c c) : Path E (fun t => p (t % L)) := by
  obtain ⟨h0, h1, he⟩ := h
  intro t
  have hm := Nat.mod_lt t hL
  show E (p (t % L)) (p ((t + 1) % L))
  by_cases h2 : t % L + 1 < L
  · have e : (t + 1) % L = t % L + 1 := by
      rw [Nat.add_mod]
      by_cases h3 : L = 1
      · omega
      · rw [Nat.mod_eq_of_lt (show 1 < L by omega), Nat.mod_eq_of_lt h2]
    rw [e]; exact he _ hm
  · have e : (t + 1) % L = 0 := by
      have e2 : t % L + 1 = L := by omega
      have := Nat.div_add_mod t L
      have e3 : t + 1 = L * (t / L + 1) := by rw [Nat.mul_add]; omega
      rw [e3, Nat.mul_mod_right]
    rw [e, h0]
    have := he (t % L) hm
    rw [show t % L + 1 = L by omega, h1] at this
    exact this

theorem good_path {E : Nat → Nat → Prop} {K : Nat → Nat → Prop} {m c : Nat} (h : GoodN E K m c) : ∃ q, q 0 = c ∧ Path E q ∧ Meets K m q ∧ ∃ L, 0 < L ∧ ∀ t, q (t + L) = q t := by
  obtain ⟨hc, hk⟩ := h
  obtain ⟨l, h1, h2⟩ := marks_list m hk
  obtain ⟨p, L, hL, hp, hm⟩ := ring_through hc l h1
  refine ⟨fun t => p (t % L), by simp [hp.1], ring_path hL hp, fun k hk t => ?_, L, hL, fun t => by simp⟩
  obtain ⟨i, hi, hK⟩ := h2 k hk
  obtain ⟨s, hs, e⟩ := hm i hi
  refine ⟨t * L + s, ?_, ?_⟩
  · have : t * 1 ≤ t * L := Nat.mul_le_mul_left t hL
    omega
  · show K k (p ((t * L + s) % L))
    rw [Nat.mul_comm, Nat.mul_add_mod, Nat.mod_eq_of_lt hs, e]
    exact hK

/-- Among few nodes one is met again and again. -/
theorem met_often {q : Nat → Nat} {P : Nat → Prop} {n : Nat} (hn : ∀ t, q t < n) (h : ∀ t, ∃ t', t ≤ t' ∧ P (q t')) : ∃ v, v < n ∧ P v ∧ ∀ t, ∃ t', t ≤ t' ∧ q t' = v := by
  refine Classical.byContradiction fun hc => ?_
  have key : ∀ j, j ≤ n → ∃ T, ∀ t, T ≤ t → ∀ v, v < j → P v → q t ≠ v := by
    intro j
    induction j with
    | zero => intro _; exact ⟨0, fun t _ v hv => by omega⟩
    | succ j ih =>
      intro hj
      obtain ⟨T, hT⟩ := ih (by omega)
      by_cases hP : P j
      · have : ∃ T', ∀ t, T' ≤ t → q t ≠ j := Classical.byContradiction fun hx => hc ⟨j, by omega, hP, fun t => Classical.byContradiction fun hy => hx ⟨t, fun t' ht e => hy ⟨t', ht, e⟩⟩⟩
        obtain ⟨T', hT'⟩ := this
        refine ⟨max T T', fun t ht v hv hPv => ?_⟩
        by_cases e : v = j
        · subst e; exact hT' t (by omega)
        · exact hT t (by omega) v (by omega) hPv
      · refine ⟨T, fun t ht v hv hPv => ?_⟩
        by_cases e : v = j
        · subst e; exact absurd hPv hP
        · exact hT t ht v (by omega) hPv
  obtain ⟨T, hT⟩ := key n (Nat.le_refl _)
  obtain ⟨t', ht, hp⟩ := h T
  exact hT t' ht (q t') (hn t') hp rfl

theorem path_good {E : Nat → Nat → Prop} {K : Nat → Nat → Prop} {m n : Nat} {q : Nat → Nat} (hq : Path E q) (hn : ∀ t, q t < n) (hm : Meets K m q) : ∃ c, c < n ∧ reach E (q 0) c ∧ GoodN E K m c := by
  obtain ⟨c, hc, _, hv⟩ := met_often (P := fun _ => True) hn (fun t => ⟨t, Nat.le_refl _, trivial⟩)
  have to : ∀ s v, (∀ t, ∃ t', t ≤ t' ∧ q t' = v) → reach E (q s) v := by
    intro s v hv
    obtain ⟨t', ht, e⟩ := hv (s + 1)
    obtain ⟨d, rfl⟩ : ∃ d, t' = s + d + 1 := ⟨t' - s - 1, by omega⟩
    rw [← e]
    exact walk_reach hq s d
  have back : ∀ u v, (∀ t, ∃ t', t ≤ t' ∧ q t' = u) → (∀ t, ∃ t', t ≤ t' ∧ q t' = v) → reach E u v := by
    intro u v hu hv
    obtain ⟨s, _, e⟩ := hu 0
    rw [← e]
    exact to s v hv
  refine ⟨c, hc, to 0 c hv, back c c hv hv, fun k hk => ?_⟩
  obtain ⟨i, _, hK, hi⟩ := met_often (P := K k) hn (hm k hk)
  exact ⟨i, back c i hv hi, back i c hi hv, hK⟩

/-- From a node an endless path goes that meets all marks just if it gets to a good one. -/
theorem endless_iff {E : Nat → Nat → Prop} {K : Nat → Nat → Prop} {m n a : Nat} (hE : ∀ a b, E a b → b < n) (ha : a < n) : (∃ q, q 0 = a ∧ Path E q ∧ Meets K m q) ↔ ∃ c, c < n ∧ reach E a c ∧ GoodN E K m c := by
  constructor
  · rintro ⟨q, q0, hq, hm⟩
    have hn : ∀ t, q t < n := fun t => by
      cases t with
      | zero => rw [q0]; exact ha
      | succ t => exact hE _ _ (hq t)
    obtain ⟨c, h1, h2, h3⟩ := path_good hq hn hm
    rw [q0] at h2
    exact ⟨c, h1, h2, h3⟩
  · rintro ⟨c, _, ⟨L, h1⟩, h2⟩
    obtain ⟨p, hp⟩ := walk_of _ _ _ h1
    obtain ⟨q, q0, hq, hm, _⟩ := good_path h2
    refine ⟨joinW p q (L + 1), ?_, ?_, ?_⟩
    · unfold joinW; rw [if_pos (by omega)]; exact hp.1
    · intro t
      unfold joinW
      by_cases h3 : t + 1 < L + 1
      · rw [if_pos (by omega), if_pos h3]; exact hp.2.2 t (by omega)
      · rw [if_neg h3]
        by_cases h4 : t < L + 1
        · have e : t + 1 = L + 1 := by omega
          rw [if_pos h4, e, Nat.sub_self, q0]
          have := hp.2.2 t h4
          rw [e, hp.2.1] at this
          exact this
        · rw [if_neg h4, show t + 1 - (L + 1) = (t - (L + 1)) + 1 by omega]; exact hq _
    · intro k hk t
      obtain ⟨t', ht, h3⟩ := hm k hk t
      refine ⟨L + 1 + t', by omega, ?_⟩
      unfold joinW
      rw [if_neg (by omega), Nat.add_sub_cancel_left]; exact h3

end Go.Proofs.Ytjagijohfkffiaa

/- Plain mathematics: sets of nodes as the reference looks at them, and its nets of sets. -/
namespace Go.Proofs.Ytjagijohfkffiaa

def fitN (nd : Nd) (k : Nat) (S : Nat → Bool) : Bool :=
  if nd.op = 48 then !S k else if nd.op = 49 then S k else if nd.op = 33 then S k != S nd.l else if nd.op = 38 then S k == (S nd.l && S nd.r) else if nd.op = 124 then S k == (S nd.l || S nd.r)
  else if nd.op = 70 then S k || !S nd.l else if nd.op = 71 then !S k || S nd.l else if nd.op = 85 then (S k || !S nd.r) && (!S k || S nd.l || S nd.r) else if nd.op = 82 then (!S k || S nd.r) && (S k || !S nd.l || !S nd.r) else true
def readN (nd : Nd) (k : Nat) (S : Nat → Bool) (x : Nat) : Bool := if nd.op = 112 ∨ nd.op = 113 ∨ nd.op = 114 then saysB x nd.op == S k else true
def folN (nd : Nd) (k : Nat) (S T : Nat → Bool) : Bool :=
  if nd.op = 88 then S k == T nd.l else if nd.op = 70 then S k == (S nd.l || T k) else if nd.op = 71 then S k == (S nd.l && T k) else if nd.op = 85 then S k == (S nd.r || (S nd.l && T k)) else if nd.op = 82 then S k == (S nd.r && (S nd.l || T k)) else true

def fitsP (ns : List Nd) (S : Nat → Bool) : Prop := ∀ k, k < ns.length → fitN (ndAt ns k) k S = true
def readP (ns : List Nd) (S : Nat → Bool) (x : Nat) : Prop := ∀ k, k < ns.length → readN (ndAt ns k) k S x = true
def folP (ns : List Nd) (S T : Nat → Bool) : Prop := ∀ k, k < ns.length → folN (ndAt ns k) k S T = true

theorem ndAt_some {ns : List Nd} {k : Nat} (h : k < ns.length) : ns[k]? = some (ndAt ns k) := by
  simp [ndAt, List.getD, List.getElem?_eq_getElem h]
theorem ndAt_of {ns : List Nd} {k : Nat} {nd : Nd} (h : ns[k]? = some nd) : k < ns.length ∧ ndAt ns k = nd := by
  obtain ⟨hk, e⟩ := List.getElem?_eq_some_iff.1 h
  exact ⟨hk, by simp [ndAt, List.getD, h]⟩

theorem law_three {nd : Nd} (hc : leafB nd.op = true ∨ oneB nd.op = true ∨ twoB nd.op = true) (k x : Nat) (S T : Nat → Bool) : S k = lawB nd.op x (S nd.l) (S nd.r) (T k) (T nd.l) ↔ fitN nd k S = true ∧ readN nd k S x = true ∧ folN nd k S T = true := by
  unfold fitN readN folN
  rcases hc with hc | hc | hc
  · rcases leaf_is hc with e | e | e | e | e
    · simp [e, lawB]
    · simp [e, lawB]
    · simp [e, lawB, saysB]; exact eq_comm
    · simp [e, lawB, saysB]; exact eq_comm
    · simp [e, lawB, saysB]; exact eq_comm
  · rcases one_is hc with e | e | e | e
    · simp [e, lawB]; cases S k <;> cases S nd.l <;> simp
    · simp [e, lawB]
    · simp [e, lawB]; cases S k <;> cases S nd.l <;> simp
    · simp [e, lawB]; cases S k <;> cases S nd.l <;> simp
  · rcases two_is hc with e | e | e | e
    · simp [e, lawB]
    · simp [e, lawB]
    · simp [e, lawB]; cases S k <;> cases S nd.l <;> cases S nd.r <;> simp
    · simp [e, lawB]; cases S k <;> cases S nd.l <;> cases S nd.r <;> simp

theorem step_iff {ns : List Nd} (hw : Wf2 ns) (x : Nat) (S T : Nat → Bool) : Step ns x S T ↔ fitsP ns S ∧ readP ns S x ∧ folP ns S T := by
  constructor
  · intro h
    have key := fun k (hk : k < ns.length) => (law_three (wf2_class hw (ndAt_some hk)).1 k x S T).1 (h k _ (ndAt_some hk))
    exact ⟨fun k hk => (key k hk).1, fun k hk => (key k hk).2.1, fun k hk => (key k hk).2.2⟩
  · rintro ⟨h1, h2, h3⟩ k nd hn
    obtain ⟨hk, e⟩ := ndAt_of hn
    subst e
    exact (law_three (wf2_class hw hn).1 k x S T).2 ⟨h1 k hk, h2 k hk, h3 k hk⟩

/-- The number whose bits are these. -/
def bitsN (S : Nat → Bool) : Nat → Nat
  | 0 => 0
  | j + 1 => (if S j then 2 ^ j else 0) + bitsN S j

theorem bitsN_lt (S : Nat → Bool) (n : Nat) : bitsN S n < 2 ^ n := by
  induction n with
  | zero => simp [bitsN]
  | succ n ih => simp only [bitsN, Nat.pow_succ]; split <;> omega
theorem bitsN_bit (S : Nat → Bool) (n k : Nat) (hk : k < n) : (bitsN S n).testBit k = S k := by
  induction n with
  | zero => omega
  | succ n ih =>
    simp only [bitsN]
    have hb := bitsN_lt S n
    by_cases e : k = n
    · subst e
      cases hS : S k with
      | true => rw [if_pos rfl, Nat.testBit_two_pow_add_eq, Nat.testBit_lt_two_pow hb]; rfl
      | false => rw [if_neg (by simp), Nat.zero_add, Nat.testBit_lt_two_pow hb]
    · cases hS : S n with
      | true => rw [if_pos rfl, Nat.testBit_two_pow_add_gt (by omega)]; exact ih (by omega)
      | false => rw [if_neg (by simp), Nat.zero_add]; exact ih (by omega)

/-- A family of sets: all that fit and that some letter reads, and no others. -/
structure AllSets (ns : List Nd) (N : Nat) (m : Nat → Nat → Bool) : Prop where
  fits : ∀ i, i < N → fitsP ns (m i)
  read : ∀ i, i < N → ∃ x, x < 8 ∧ readP ns (m i) x
  all : ∀ S x, x < 8 → fitsP ns S → readP ns S x → ∃ i, i < N ∧ EqOn ns.length S (m i)

theorem fits_congr {ns : List Nd} (hw : Wf2 ns) {S T : Nat → Bool} (h : EqOn ns.length S T) (hf : fitsP ns S) : fitsP ns T := fun k hk => by
  obtain ⟨h1, h2, h3⟩ := wf2_lt hw (ndAt_some hk)
  have := hf k hk
  unfold fitN at this ⊢
  rw [← h k h1, ← h _ h2, ← h _ h3]
  exact this
theorem read_congr {ns : List Nd} {S T : Nat → Bool} (h : EqOn ns.length S T) {x : Nat} (hf : readP ns S x) : readP ns T x := fun k hk => by
  have := hf k hk
  unfold readN at this ⊢
  rw [← h k hk]
  exact this
theorem fol_congr {ns : List Nd} (hw : Wf2 ns) {S T S' T' : Nat → Bool} (h : EqOn ns.length S S') (h' : EqOn ns.length T T') (hf : folP ns S T) : folP ns S' T' := fun k hk => by
  obtain ⟨h1, h2, h3⟩ := wf2_lt hw (ndAt_some hk)
  have := hf k hk
  unfold folN at this ⊢
  rw [← h k h1, ← h _ h2, ← h _ h3, ← h' k h1, ← h' _ h2]
  exact this
theorem kept_congr {ns : List Nd} (hw : Wf2 ns) {S T : Nat → Bool} (h : EqOn ns.length S T) {k : Nat} (hk : k < ns.length) : keptN (ndAt ns k) k S = keptN (ndAt ns k) k T := by
  obtain ⟨h1, h2, h3⟩ := wf2_lt hw (ndAt_some hk)
  unfold keptN
  rw [h k h1, h _ h2, h _ h3]

def edgeS (ns : List Nd) (N : Nat) (m : Nat → Nat → Bool) (i j : Nat) : Prop := i < N ∧ j < N ∧ folP ns (m i) (m j)
def markS (ns : List Nd) (m : Nat → Nat → Bool) (k i : Nat) : Prop := keptN (ndAt ns k) k (m i) = true

/-- A set may begin an endless row just if an endless path that keeps all goes from it. -/
theorem live_path {ns : List Nd} (hw : Wf2 ns) {N : Nat} {m : Nat → Nat → Bool} (hA : AllSets ns N m) {i : Nat} (hi : i < N) :
    chain ns [] (m i) ↔ ∃ q, q 0 = i ∧ Path (edgeS ns N m) q ∧ Meets (markS ns m) ns.length q := by
  constructor
  · rintro ⟨x, S, h1, h2, h3⟩
    have ex : ∀ t, ∃ j, j < N ∧ EqOn ns.length (S t) (m j) := fun t => by
      obtain ⟨f1, f2, _⟩ := (step_iff hw (x t) (S t) (S (t + 1))).1 (h2.step t)
      exact hA.all (S t) (x t) (h1 t) f1 f2
    let q : Nat → Nat := fun t => if t = 0 then i else Classical.choose (ex t)
    have hq : ∀ t, q t < N ∧ EqOn ns.length (S t) (m (q t)) := fun t => by
      by_cases e : t = 0
      · subst e; exact ⟨hi, h3⟩
      · have e2 : q t = Classical.choose (ex t) := if_neg e
        rw [e2]; exact Classical.choose_spec (ex t)
    refine ⟨q, if_pos rfl, fun t => ⟨(hq t).1, (hq (t + 1)).1, ?_⟩, fun k hk t => ?_⟩
    · obtain ⟨_, _, f3⟩ := (step_iff hw (x t) (S t) (S (t + 1))).1 (h2.step t)
      exact fol_congr hw (hq t).2 (hq (t + 1)).2 f3
    · obtain ⟨t', ht, h4⟩ := h2.kept k _ (ndAt_some hk) t
      exact ⟨t', ht, by unfold markS; rw [← kept_congr hw (hq t').2 hk]; exact h4⟩
  · rintro ⟨q, q0, hq, hm⟩
    have hN : ∀ t, q t < N := fun t => (hq t).1
    let x : Nat → Nat := fun t => Classical.choose (hA.read (q t) (hN t))
    have hx : ∀ t, x t < 8 ∧ readP ns (m (q t)) (x t) := fun t => Classical.choose_spec (hA.read (q t) (hN t))
    refine ⟨x, fun t => m (q t), fun t => (hx t).1, ⟨fun t => ?_, fun k nd hn t => ?_⟩, by show EqOn _ (m (q 0)) (m i); rw [q0]; exact EqOn.refl _ _⟩
    · exact (step_iff hw _ _ _).2 ⟨hA.fits _ (hN t), (hx t).2, (hq t).2.2⟩
    · obtain ⟨hk, e⟩ := ndAt_of hn
      obtain ⟨t', ht, h4⟩ := hm k hk t
      subst e
      exact ⟨t', ht, h4⟩

theorem live_good {ns : List Nd} (hw : Wf2 ns) {N : Nat} {m : Nat → Nat → Bool} (hA : AllSets ns N m) {i : Nat} (hi : i < N) :
    chain ns [] (m i) ↔ ∃ c, c < N ∧ reach (edgeS ns N m) i c ∧ GoodN (edgeS ns N m) (markS ns m) ns.length c := by
  rw [live_path hw hA hi]
  exact endless_iff (fun a b h => h.2.1) hi

/-- A family of the sets that may begin endless rows: all, and no others. -/
structure LiveSets (ns : List Nd) (M : Nat) (m : Nat → Nat → Bool) : Prop where
  live : ∀ i, i < M → chain ns [] (m i)
  all : ∀ S, chain ns [] S → ∃ i, i < M ∧ EqOn ns.length S (m i)

/-- Behind one of these and a letter. -/
def onP (ns : List Nd) (M : Nat) (m : Nat → Nat → Bool) (P : Nat → Prop) (a : Nat) (j : Nat) : Prop := j < M ∧ ∃ i, i < M ∧ P i ∧ readP ns (m i) a ∧ folP ns (m i) (m j)
def afterP (ns : List Nd) (M : Nat) (m : Nat → Nat → Bool) : List Nat → (Nat → Prop) → Nat → Prop
  | [], P => P
  | a :: u, P => afterP ns M m u (onP ns M m P a)

theorem chain_step {ns : List Nd} (hw : Wf2 ns) {S : Nat → Bool} (h : chain ns [] S) : fitsP ns S := by
  obtain ⟨x, S', _, h2, h3⟩ := h
  exact fits_congr hw h3 ((step_iff hw _ _ _).1 (h2.step 0)).1

theorem after_iff {ns : List Nd} (hw : Wf2 ns) {M : Nat} {m : Nat → Nat → Bool} (hL : LiveSets ns M m) : ∀ (u : List Nat) (P : Nat → Prop), (∀ x ∈ u, x < 8) → (∀ i, P i → i < M) → ((∃ j, afterP ns M m u P j) ↔ ∃ i, P i ∧ chain ns u (m i))
  | [], P, _, hP => ⟨fun ⟨j, h⟩ => ⟨j, h, hL.live j (hP j h)⟩, fun ⟨i, h, _⟩ => ⟨i, h⟩⟩
  | a :: u, P, hu, hP => by
    show (∃ j, afterP ns M m u (onP ns M m P a) j) ↔ _
    rw [after_iff hw hL u _ (fun x hx => hu x (List.mem_cons_of_mem _ hx)) (fun i h => h.1)]
    constructor
    · rintro ⟨j, ⟨hj, i, hi, hp, hr, hf⟩, hc⟩
      exact ⟨i, hp, hu a (List.mem_cons_self ..), m j, (step_iff hw _ _ _).2 ⟨chain_step hw (hL.live i hi), hr, hf⟩, hc⟩
    · rintro ⟨i, hp, _, T, hs, hc⟩
      obtain ⟨j, hj, e⟩ := hL.all T (chain_live hw hc)
      obtain ⟨_, f2, f3⟩ := (step_iff hw _ _ _).1 hs
      exact ⟨j, ⟨hj, i, hP i hp, hp, f2, fol_congr hw (EqOn.refl _ _) e f3⟩, chain_congr hw e hc⟩

/-- The verdict is told by which sets may stand behind the word. -/
theorem told_verdict {ns : List Nd} (hg : Good ns) {M : Nat} {m : Nat → Nat → Bool} (hL : LiveSets ns M m) (u : List Nat) (hu : ∀ x ∈ u, x < 8) (b : Bool) :
    (∃ j, afterP ns M m u (fun i => i < M ∧ m i (ns.length - 1) = b) j) ↔ May ns u b := by
  have hp := hg.pos
  rw [after_iff hg.wf hL u _ hu (fun i h => h.1), may_iff hg]
  constructor
  · rintro ⟨i, ⟨_, h⟩, hc⟩; exact ⟨m i, h, hc⟩
  · rintro ⟨S, h, hc⟩
    obtain ⟨i, hi, e⟩ := hL.all S (chain_live hg.wf hc)
    exact ⟨i, ⟨hi, by rw [← e _ (by omega)]; exact h⟩, chain_congr hg.wf e hc⟩

end Go.Proofs.Ytjagijohfkffiaa

/- The reference's formula in memory, as it is read. -/
namespace Go.Proofs.Ytjagijohfkffiaa
open Go.RowKit
set_option linter.unusedVariables false

def bAt (bs : List Nat) (k : Nat) : Nat := bs.getD k 0

structure FR (w : World) (F gp cap : Nat) (ns : List Nd) (bs : List Nat) : Prop where
  c0 : w.cell? ⟨F, 0, none⟩ = some (.slice (some ⟨gp, 0, none⟩) ns.length cap)
  hcap : ns.length ≤ cap
  lt0 : F < w.heap.size
  ltp : gp < w.heap.size
  ptr : ∀ k, k < ns.length → w.cell? ⟨gp, k, none⟩ = some (.pointer (some ⟨bAt bs k, 0, none⟩))
  op : ∀ k, k < ns.length → w.cell? ⟨bAt bs k, 0, none⟩ = some (.int .u8 (ndAt ns k).op)
  lp : ∀ k, k < ns.length → leafB (ndAt ns k).op = false → w.cell? ⟨bAt bs k, 1, none⟩ = some (.pointer (some ⟨bAt bs (ndAt ns k).l, 0, none⟩))
  rp : ∀ k, k < ns.length → twoB (ndAt ns k).op = true → w.cell? ⟨bAt bs k, 2, none⟩ = some (.pointer (some ⟨bAt bs (ndAt ns k).r, 0, none⟩))
  nn : ∀ k, k < ns.length → w.cell? ⟨bAt bs k, 3, none⟩ = some (.int .i64 k)
  ltb : ∀ k, k < ns.length → bAt bs k < w.heap.size

theorem FR.below {w w' : World} {F gp cap : Nat} {ns : List Nd} {bs : List Nat} (h : FR w F gp cap ns bs) (hb : Below w.heap.size w w') : FR w' F gp cap ns bs :=
  ⟨(hb.cell (p := ⟨F, 0, none⟩) h.lt0).trans h.c0, h.hcap, Nat.lt_of_lt_of_le h.lt0 hb.size, Nat.lt_of_lt_of_le h.ltp hb.size, fun k hk => (hb.cell (p := ⟨gp, k, none⟩) h.ltp).trans (h.ptr k hk),
    fun k hk => (hb.cell (p := ⟨bAt bs k, 0, none⟩) (h.ltb k hk)).trans (h.op k hk), fun k hk e => (hb.cell (p := ⟨bAt bs k, 1, none⟩) (h.ltb k hk)).trans (h.lp k hk e), fun k hk e => (hb.cell (p := ⟨bAt bs k, 2, none⟩) (h.ltb k hk)).trans (h.rp k hk e),
    fun k hk => (hb.cell (p := ⟨bAt bs k, 3, none⟩) (h.ltb k hk)).trans (h.nn k hk), fun k hk => Nat.lt_of_lt_of_le (h.ltb k hk) hb.size⟩

theorem fr_of {w : World} {F : Nat} {ns : List Nd} {bs : List Nat} (h : Fm w F ns bs) (hp : 0 < ns.length) : ∃ gp cap, FR w F gp cap ns bs := by
  obtain ⟨ao, cap, hc, own⟩ := h.c0
  obtain ⟨gp, rfl, _, hg, hcap⟩ := own_at own hp
  have part : ∀ k, k < ns.length → w.heap[bAt bs k]? = some (partObj bs k (ndAt ns k)) := fun k hk => by
    obtain ⟨b, hb, _, hh⟩ := h.parts k _ (ndAt_some hk)
    have : bAt bs k = b := by simp [bAt, List.getD, hb]
    rw [this]; exact hh
  refine ⟨gp, cap, hc, hcap, h.ltF, hg, fun k hk => ?_, fun k hk => ?_, fun k hk e => ?_, fun k hk e => ?_, fun k hk => ?_, fun k hk => heap_lt (part k hk)⟩
  · have hk2 : k < bs.length := by rw [h.len]; exact hk
    rw [own.cellAt k (by omega)]
    simp [ptrTo1, bAt, List.getD, List.getElem?_eq_getElem hk2]
  · rw [cell_of_row w _ _ _ _ _ (part k hk)]; rfl
  · rw [cell_of_row w _ _ _ _ _ (part k hk)]; simp [lptr, e, bAt]
  · rw [cell_of_row w _ _ _ _ _ (part k hk)]; simp [rptr, e, bAt]
  · rw [cell_of_row w _ _ _ _ _ (part k hk)]; rfl

theorem Rb.drewN {w : World} {g n : Nat} {f : Nat → Bool} (h : Rb w g n f) (m : Nat) : Rb (w.drewN m) g n f := ⟨h.lt, h.cell⟩
theorem FR.drewN {w : World} {F gp cap : Nat} {ns : List Nd} {bs : List Nat} (h : FR w F gp cap ns bs) (m : Nat) : FR (w.drewN m) F gp cap ns bs :=
  ⟨h.c0, h.hcap, h.lt0, h.ltp, h.ptr, h.op, h.lp, h.rp, h.nn, h.ltb⟩

/-- What can be asked of all nodes at once. -/
def allN (ns : List Nd) (p : Nd → Nat → Bool) : Bool := (List.range ns.length).all fun k => p (ndAt ns k) k
theorem allN_iff {ns : List Nd} {p : Nd → Nat → Bool} : allN ns p = true ↔ ∀ k, k < ns.length → p (ndAt ns k) k = true := by simp [allN, List.all_eq_true]
theorem allN_no {ns : List Nd} {p : Nd → Nat → Bool} {k : Nat} (hk : k < ns.length) (h : p (ndAt ns k) k = false) : allN ns p = false := by
  cases e : allN ns p with
  | false => rfl
  | true => rw [allN_iff] at e; rw [e k hk] at h; cases h

def fitsB (ns : List Nd) (S : Nat → Bool) : Bool := allN ns fun nd k => fitN nd k S
def readB' (ns : List Nd) (S : Nat → Bool) (x : Nat) : Bool := allN ns fun nd k => readN nd k S x
def folB (ns : List Nd) (S T : Nat → Bool) : Bool := allN ns fun nd k => folN nd k S T
theorem fitsB_iff {ns : List Nd} {S : Nat → Bool} : fitsB ns S = true ↔ fitsP ns S := allN_iff
theorem readB_iff {ns : List Nd} {S : Nat → Bool} {x : Nat} : readB' ns S x = true ↔ readP ns S x := allN_iff
theorem folB_iff {ns : List Nd} {S T : Nat → Bool} : folB ns S T = true ↔ folP ns S T := allN_iff

end Go.Proofs.Ytjagijohfkffiaa

/- A great loop, cut into declarations: its body, its frame. -/
namespace Go.Proofs.Ytjagijohfkffiaa
open Go.RowKit
set_option linter.unusedVariables false

def firstLoop : Code → Option Code
  | .loop c => some c
  | .seq a b => match firstLoop a with
    | some c => some c
    | none => firstLoop b
  | .block _ c => firstLoop c
  | .scope c => firstLoop c
  | .cond _ a b => match firstLoop a with
    | some c => some c
    | none => firstLoop b
  | _ => none

def bodyOf (f : Func) : Code := (f.body.bind firstLoop).getD .skip

theorem arr_range {a : Array Value} {n : Nat} (h : a.size = n) : a = ((List.range n).map (fun i => a.getD i undef)).toArray := by
  apply Array.ext
  · simp [h]
  · intro i h1 h2
    simp [h1]

/-- Between the rounds: the slots s0, s1 stay, the slot c counts. -/
def GI (size : Nat) (fixed : List (Nat × Value)) (c n : Nat) (P : Nat → Prop) (w : World) (a : Act) (w' : World) : Prop :=
  a.defers = [] ∧ a.tmps.size = size ∧ (∀ x ∈ fixed, a.tmps.getD x.1 undef = x.2) ∧ ∃ j, j ≤ n ∧ a.tmps.getD c undef = .int .i64 (j : Nat) ∧ P j ∧ ∃ m, w' = w.drewN m
def GM (c n : Nat) (a : Act) (_ : World) : Nat := n - (intOf (a.tmps.getD c undef)).toNat

end Go.Proofs.Ytjagijohfkffiaa
