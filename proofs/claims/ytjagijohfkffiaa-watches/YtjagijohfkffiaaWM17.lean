import Derived.Test.YtjagijohfkffiaaWM01
import Derived.Test.YtjagijohfkffiaaWM02
import Derived.Test.YtjagijohfkffiaaWM13
import Derived.Test.YtjagijohfkffiaaWM16

/- Plain mathematics: how many states there are, at most, for every formula. -/
namespace Go.Proofs.Ytjagijohfkffiaa
set_option linter.unusedVariables false

theorem relF_len : ∀ (ms : List Nd) (i : Nat), (relF i ms).length = ms.countP fun nd => tempB nd.op
  | [], _ => rfl
  | nd :: ms, i => by
    rw [relF, List.length_append, relF_len ms (i + 1), List.countP_cons]
    cases tempB nd.op <;> simp <;> omega

def nd_one (nd : Nd) : Bool := oneB nd.op
def nd_two (nd : Nd) : Bool := twoB nd.op
def nd_tmp (nd : Nd) : Bool := tempB nd.op
def nd_not (nd : Nd) : Bool := nd.op == 33
def cntN (p : Nd → Bool) (ms : List Nd) : Nat := ms.countP p
theorem cntN_snoc (p : Nd → Bool) (ms : List Nd) (nd : Nd) : cntN p (ms ++ [nd]) = cntN p ms + (if p nd = true then 1 else 0) := by unfold cntN; rw [List.countP_append, List.countP_singleton]
theorem cntN_app (p : Nd → Bool) (ms ls : List Nd) : cntN p (ms ++ ls) = cntN p ms + cntN p ls := by unfold cntN; rw [List.countP_append]
theorem filter_both {α : Type} (p : α → Bool) : ∀ l : List α, (l.filter p).length + (l.filter fun x => !p x).length = l.length
  | [] => rfl
  | x :: l => by
    have := filter_both p l
    cases h : p x <;> simp [h] <;> omega

theorem seg_counts {b : Nat} {ms : List Nd} (h : Seg b ms) : ms.length = 2 * cntN nd_two ms + 1 + cntN nd_one ms ∧ cntN nd_tmp ms + cntN nd_not ms ≤ cntN nd_one ms + cntN nd_two ms := by
  induction h using seg_ind with
  | leaf b op ho =>
    simp only [leafB, Bool.or_eq_true, beq_iff_eq] at ho
    rcases ho with (((h | h) | h) | h) | h <;> subst h <;> decide
  | one b op ms ho hs ih =>
    obtain ⟨h1, h2⟩ := ih
    rw [cntN_snoc, cntN_snoc, cntN_snoc, cntN_snoc, List.length_append, List.length_singleton]
    simp only [oneB, Bool.or_eq_true, beq_iff_eq] at ho
    rcases ho with ((h | h) | h) | h <;> subst h <;> simp [nd_one, nd_two, nd_tmp, nd_not, oneB, twoB, tempB] <;> omega
  | two b op ms ls ho h1 h2 ih1 ih2 =>
    obtain ⟨a1, a2⟩ := ih1
    obtain ⟨b1, b2⟩ := ih2
    rw [cntN_snoc, cntN_snoc, cntN_snoc, cntN_snoc, cntN_app, cntN_app, cntN_app, cntN_app, List.length_append, List.length_append, List.length_singleton]
    simp only [twoB, Bool.or_eq_true, beq_iff_eq] at ho
    rcases ho with ((h | h) | h) | h <;> subst h <;> simp [nd_one, nd_two, nd_tmp, nd_not, oneB, twoB, tempB] <;> omega

/-- Where no sign joins two, the nodes are a chain. -/
theorem seg_chain {b : Nat} {ms : List Nd} (h : Seg b ms) : cntN nd_two ms = 0 → cntN nd_not ms = 0 → ∀ i nd, ms[i]? = some nd → (i = 0 ∧ leafB nd.op = true) ∨ (0 < i ∧ oneB nd.op = true ∧ nd.op ≠ 33 ∧ nd.l = b + i - 1 ∧ nd.r = 0) := by
  induction h using seg_ind with
  | leaf b op ho =>
    intro _ _ i nd hi
    cases i with
    | zero => simp at hi; subst hi; exact Or.inl ⟨rfl, ho⟩
    | succ i => simp at hi
  | one b op ms ho hs ih =>
    intro h0 h1 i nd hi
    have hp := seg_pos hs
    rw [cntN_snoc] at h0 h1
    by_cases e : i < ms.length
    · rw [List.getElem?_append_left e] at hi
      exact ih (by omega) (by omega) i nd hi
    · rw [List.getElem?_append_right (by omega)] at hi
      have e2 : i = ms.length := by
        have := (List.getElem?_eq_some_iff.1 hi).1
        simp at this; omega
      subst e2
      simp at hi
      subst hi
      refine Or.inr ⟨hp, ho, fun e => ?_, rfl, rfl⟩
      dsimp only at e
      rw [e] at h1
      simp [nd_not] at h1
  | two b op ms ls ho h1 h2 ih1 ih2 =>
    intro h0
    rw [cntN_snoc] at h0
    simp [nd_two, ho] at h0

/-- The chain but for its last node. -/
theorem chain_seg : ∀ (ms : List Nd), (∀ i nd, ms[i]? = some nd → (i = 0 ∧ leafB nd.op = true ∧ nd.l = 0 ∧ nd.r = 0) ∨ (0 < i ∧ oneB nd.op = true ∧ nd.l = i - 1 ∧ nd.r = 0)) → 0 < ms.length → Seg 0 ms := by
  intro ms
  generalize hn : ms.length = n
  induction n generalizing ms with
  | zero => intro _ h; omega
  | succ n ih =>
    intro h _
    obtain ⟨ms', nd, rfl⟩ : ∃ ms' nd, ms = ms' ++ [nd] := ⟨ms.dropLast, ms.getLast (by intro e; rw [e] at hn; simp at hn), (List.dropLast_concat_getLast _).symm⟩
    rw [List.length_append, List.length_singleton] at hn
    have hl : ms'.length = n := by omega
    have hlast := h n nd (by rw [List.getElem?_append_right (by omega), hl]; simp)
    by_cases e : n = 0
    · subst e
      have : ms' = [] := List.eq_nil_of_length_eq_zero hl
      subst this
      rcases hlast with ⟨_, h1, h2, h3⟩ | ⟨h1, _⟩
      · obtain ⟨op, l, r⟩ := nd
        dsimp only at h1 h2 h3
        subst h2
        subst h3
        exact Seg.leaf 0 op h1
      · omega
    · have hs := ih ms' hl (fun i m hi => h i m (by rw [List.getElem?_append_left (List.getElem?_eq_some_iff.1 hi).1]; exact hi)) (by omega)
      rcases hlast with ⟨h1, _⟩ | ⟨_, h1, h2, h3⟩
      · omega
      · obtain ⟨op, l, r⟩ := nd
        dsimp only at h1 h2 h3
        subst h2
        subst h3
        have := Seg.one 0 op ms' h1 hs
        rwa [hl, Nat.zero_add] at this

theorem good_take {ns : List Nd} (hg : Good ns) {m : Nat} (h0 : 0 < m) (hm : m ≤ ns.length) : Good (ns.take m) := by
  have := hg.le
  refine ⟨by rw [List.length_take]; omega, by rw [List.length_take]; omega, fun i nd hi => ?_⟩
  have hl := (List.getElem?_eq_some_iff.1 hi).1
  rw [List.length_take] at hl
  rw [List.getElem?_take_of_lt (by omega)] at hi
  exact hg.wf i nd hi

/-- The lower bits are those of the part. -/
theorem back_take {ns : List Nd} (hg : Good ns) {m : Nat} (h0 : 0 < m) (hm : m ≤ ns.length) (N : Nat) : ∀ u, EqOn m (tb (back ns u N)) (tb (back (ns.take m) u N))
  | [] => EqOn.refl _ _
  | a :: u => by
    have hl : (ns.take m).length = m := by rw [List.length_take]; omega
    have h1 := back_take hg h0 hm N u
    have hst : Step (ns.take m) a (tb (bef ns a (back ns u N))) (tb (back ns u N)) := fun k nd hk => by
      have hkl := (List.getElem?_eq_some_iff.1 hk).1
      rw [List.getElem?_take_of_lt (by omega)] at hk
      exact bef_step hg a _ k nd hk
    have := bef_eqOn (good_take hg h0 hm) hst (N := back (ns.take m) u N) (by rw [hl]; exact h1.symm)
    rw [hl] at this
    exact this.symm

def orS (ns : List Nd) (σ : Nat → Bool) : List Nat → Nat → Bool
  | [], _ => false
  | a :: u, b => hOf ns σ (a :: u) b || orS ns σ u b
def andS (ns : List Nd) (σ : Nat → Bool) : List Nat → Nat → Bool
  | [], _ => true
  | a :: u, b => hOf ns σ (a :: u) b && andS ns σ u b
theorem orS_rise {ns : List Nd} (hg : Good ns) {σ : Nat → Bool} (hs : Signs σ ns) (ht : σ (ns.length - 1) = true) (h6 : (relF 0 ns).length ≤ 6) : ∀ u, Rise 6 (orS ns σ u)
  | [] => fun a b _ _ _ h => by simp [orS] at h
  | a :: u => fun x y hx hy hsub h => by
    rw [orS, Bool.or_eq_true] at h ⊢
    exact h.imp (hOf_rise hg hs ht h6 (by simp) x y hx hy hsub) (orS_rise hg hs ht h6 u x y hx hy hsub)
theorem andS_rise {ns : List Nd} (hg : Good ns) {σ : Nat → Bool} (hs : Signs σ ns) (ht : σ (ns.length - 1) = true) (h6 : (relF 0 ns).length ≤ 6) : ∀ u, Rise 6 (andS ns σ u)
  | [] => fun a b _ _ _ h => rfl
  | a :: u => fun x y hx hy hsub h => by
    rw [andS, Bool.and_eq_true] at h ⊢
    exact ⟨hOf_rise hg hs ht h6 (by simp) x y hx hy hsub h.1, andS_rise hg hs ht h6 u x y hx hy hsub h.2⟩

/-- The same by some rising function of six bools for each word. -/
theorem few_by {ns : List Nd} (hg : Good ns) {liv : Nat → Bool} (hl : LivP ns (calmsTo ns ns.length) liv) (us : List (List Nat)) (hu : ∀ u ∈ us, ∀ x ∈ u, x < 8)
    (hd : (us.map fun u => gv (runG ns liv (begB ns liv) u)).Nodup) (F : List Nat → Nat → Bool) (hF : ∀ u ∈ us, Rise 6 (F u)) (P : Nat → Nat) (hP : ∀ N, P N < 2 ^ 6) (C : Nat → Bool → Bool)
    (hC : ∀ u ∈ us, ∀ N, (back ns u N).testBit (ns.length - 1) = C N (F u (P N))) : us.length ≤ 796594176 := by
  have key : (us.map fun u => tab 6 (F u)).Nodup := by
    rw [List.nodup_iff_pairwise_ne, List.pairwise_map] at hd ⊢
    refine List.Pairwise.imp_of_mem ?_ hd
    intro u v hu1 hv1 hne e
    refine hne (gv_congr fun N hN => ?_)
    rw [Bool.eq_iff_iff, runG_iff hg hl u (hu u hu1), runG_iff hg hl v (hu v hv1), hC u hu1, hC v hv1, tab_inj e (hP N)]
  have := nodup_sub _ m6 key (fun x hx => by
    obtain ⟨u, hu1, rfl⟩ := List.mem_map.1 hx
    exact mem_m6 (hF u hu1))
  rw [m6_len] at this
  simpa using this

theorem few_two {ns : List Nd} (hg : Good ns) (ht : Seg 0 ns) {liv : Nat → Bool} (hl : LivP ns (calmsTo ns ns.length) liv) (us : List (List Nat)) (hu : ∀ u ∈ us, 2 ≤ u.length ∧ ∀ x ∈ u, x < 8)
    (hd : (us.map fun u => gv (runG ns liv (begB ns liv) u)).Nodup) : us.length ≤ 796594176 := by
  have h8 := hg.le
  by_cases h6 : (relF 0 ns).length ≤ 6
  · exact few_six hg ht h6 hl us (fun u h => ⟨fun e => by have := (hu u h).1; rw [e] at this; simp at this, (hu u h).2⟩) hd
  · obtain ⟨c1, c2⟩ := seg_counts ht
    rw [relF_len, show ns.countP (fun nd => tempB nd.op) = cntN nd_tmp ns from rfl] at h6
    have n2 : cntN nd_two ns = 0 := by omega
    have n3 : cntN nd_not ns = 0 := by omega
    have hlen : ns.length = 8 := by omega
    have hch := seg_chain ht n2 n3
    have wf := hg.wf
    have hg7 := good_take hg (m := 7) (by omega) (by omega)
    have l7 : (ns.take 7).length = 7 := by rw [List.length_take]; omega
    have s7 : Seg 0 (ns.take 7) := chain_seg _ (fun i nd hi => by
      have hil := (List.getElem?_eq_some_iff.1 hi).1
      rw [List.getElem?_take_of_lt (by omega)] at hi
      rcases hch i nd hi with ⟨h1, h2⟩ | ⟨h1, h2, _, h3, h4⟩
      · rcases wf i nd hi with ⟨_, a, b⟩ | ⟨a, b, _⟩ | ⟨a, b, _⟩
        · exact Or.inl ⟨h1, h2, a, b⟩
        · omega
        · omega
      · exact Or.inr ⟨h1, h2, by omega, h4⟩) (by omega)
    have h67 : (relF 0 (ns.take 7)).length ≤ 6 := by
      obtain ⟨d1, d2⟩ := seg_counts s7
      rw [relF_len, show (ns.take 7).countP (fun nd => tempB nd.op) = cntN nd_tmp (ns.take 7) from rfl]
      omega
    obtain ⟨σ, hr, hs0⟩ := seg_sign s7 true
    have hs : Signs σ (ns.take 7) := fun i nd hi => by have := hs0 i nd hi; rwa [Nat.zero_add] at this
    rw [Nat.zero_add] at hr
    obtain ⟨nd, hn⟩ : ∃ nd, ns[7]? = some nd := ⟨ns[7], List.getElem?_eq_getElem (by omega)⟩
    have hP : ∀ N, pj (ns.take 7) σ N < 2 ^ 6 := fun N => cdTo_pow _ (by omega)
    have b6 : ∀ u N, u ≠ [] → (back ns u N).testBit 6 = hOf (ns.take 7) σ u (pj (ns.take 7) σ N) := fun u N hne => by
      rw [hOf_pj hg7 hs h67 hne, l7]
      exact back_take hg (m := 7) (by omega) (by omega) N u 6 (by omega)
    rcases hch 7 nd hn with ⟨h1, _⟩ | ⟨_, h1, h2, h3, _⟩
    · omega
    · have hstep : ∀ a u N, (back ns (a :: u) N).testBit 7 = lawB nd.op a ((back ns (a :: u) N).testBit 6) ((back ns (a :: u) N).testBit nd.r) ((back ns u N).testBit 7) ((back ns u N).testBit 6) := fun a u N => by
        have := bef_step hg a (back ns u N) 7 nd hn
        simp only [tb] at this
        rw [show nd.l = 6 by omega] at this
        exact this
      simp only [oneB, Bool.or_eq_true, beq_iff_eq] at h1
      rcases h1 with ((h1 | h1) | h1) | h1
      · exact absurd h1 h2
      · refine few_by hg hl us (fun u h => (hu u h).2) hd (fun u => hOf (ns.take 7) σ u.tail) (fun u h => ?_) (pj (ns.take 7) σ) hP (fun _ b => b) (fun u h N => ?_)
        · obtain ⟨q1, _⟩ := hu u h
          refine hOf_rise hg7 hs hr h67 ?_
          cases u with
          | nil => simp at q1
          | cons a u => cases u with
            | nil => simp at q1
            | cons b u => simp
        · obtain ⟨q1, _⟩ := hu u h
          cases u with
          | nil => simp at q1
          | cons a u =>
            rw [hlen]
            show (back ns (a :: u) N).testBit 7 = _
            rw [hstep]
            simp only [lawB, h1]
            simp only [List.tail_cons]
            exact b6 u N (by intro e; rw [e] at q1; simp at q1)
      · have root : ∀ u N, (back ns u N).testBit 7 = (orS (ns.take 7) σ u (pj (ns.take 7) σ N) || N.testBit 7) := by
          intro u N
          induction u with
          | nil => simp [orS, back]
          | cons a u ih =>
            rw [hstep]
            simp only [lawB, h1]
            rw [orS, ← b6 (a :: u) N (by simp), Bool.or_assoc, ← ih]
            simp
        refine few_by hg hl us (fun u h => (hu u h).2) hd (orS (ns.take 7) σ) (fun u _ => orS_rise hg7 hs hr h67 u) (pj (ns.take 7) σ) hP (fun N b => b || N.testBit 7) (fun u h N => ?_)
        rw [hlen]
        exact root u N
      · have root : ∀ u N, (back ns u N).testBit 7 = (andS (ns.take 7) σ u (pj (ns.take 7) σ N) && N.testBit 7) := by
          intro u N
          induction u with
          | nil => simp [andS, back]
          | cons a u ih =>
            rw [hstep]
            simp only [lawB, h1]
            rw [andS, ← b6 (a :: u) N (by simp), Bool.and_assoc, ← ih]
            simp
        refine few_by hg hl us (fun u h => (hu u h).2) hd (andS (ns.take 7) σ) (fun u _ => andS_rise hg7 hs hr h67 u) (pj (ns.take 7) σ) hP (fun N b => b && N.testBit 7) (fun u h N => ?_)
        rw [hlen]
        exact root u N

/-- Words that lead to unlike groups are few. -/
theorem few {ns : List Nd} (hg : Good ns) (ht : Seg 0 ns) {liv : Nat → Bool} (hl : LivP ns (calmsTo ns ns.length) liv) (us : List (List Nat)) (hu : ∀ u ∈ us, ∀ x ∈ u, x < 8)
    (hd : (us.map fun u => gv (runG ns liv (begB ns liv) u)).Nodup) : us.length ≤ 796594185 := by
  have hnd : us.Nodup := by
    rw [List.nodup_iff_pairwise_ne, List.pairwise_map] at hd
    rw [List.nodup_iff_pairwise_ne]
    exact hd.imp fun h e => h (by rw [e])
  have h1 := few_two hg ht hl (us.filter fun u => decide (2 ≤ u.length)) (fun u h => by
    rw [List.mem_filter] at h
    exact ⟨by simpa using h.2, hu u h.1⟩) (List.Nodup.sublist (List.Sublist.map _ List.filter_sublist) hd)
  have h2 : (us.filter fun u => !decide (2 ≤ u.length)).length ≤ 9 := by
    have := nodup_sub (us.filter fun u => !decide (2 ≤ u.length)) ([] :: (List.range 8).map fun x => [x]) (hnd.sublist List.filter_sublist) (fun u h => by
      rw [List.mem_filter] at h
      obtain ⟨h3, h4⟩ := h
      cases u with
      | nil => simp
      | cons a u => cases u with
        | nil =>
          have := hu [a] h3 a (by simp)
          simp [this]
        | cons b u => simp at h4)
    simpa using this
  have h3 := filter_both (fun u : List Nat => decide (2 ≤ u.length)) us
  omega

end Go.Proofs.Ytjagijohfkffiaa

/- Plain mathematics: the states as they are met. -/
namespace Go.Proofs.Ytjagijohfkffiaa
set_option linter.unusedVariables false

def nxL (xs : List Nat) : Nat → Nat → Nat := fun i l => xs.getD (8 * i + l) 0
theorem nxL_at (xs : List Nat) (p : Nat) : nxL xs (p / 8) (p % 8) = xs.getD p 0 := by unfold nxL; rw [show 8 * (p / 8) + p % 8 = p by omega]
theorem getD_snoc_lt {xs : List Nat} {x p : Nat} (h : p < xs.length) : (xs ++ [x]).getD p 0 = xs.getD p 0 := by simp [List.getD, List.getElem?_append_left h]
theorem getD_snoc_eq (xs : List Nat) (x : Nat) : (xs ++ [x]).getD xs.length 0 = x := by simp [List.getD]
theorem met_snoc {xs : List Nat} {x : Nat} : ∀ p, p ≤ xs.length → met (nxL (xs ++ [x])) p = met (nxL xs) p
  | 0, _ => rfl
  | p + 1, h => by rw [met, met, met_snoc p (by omega), nxL_at, nxL_at, getD_snoc_lt (by omega)]

section
variable (ns : List Nd) (liv beg : Nat → Bool)

/-- The words that lead to the states that were met; where the looks led. -/
structure Expl (us : List (List Nat)) (xs : List Nat) : Prop where
  first : us[0]? = some []
  let8 : ∀ u ∈ us, ∀ x ∈ u, x < 8
  dist : (us.map fun u => gv (runG ns liv beg u)).Nodup
  ok : ∀ p, p < xs.length → ∃ u0 u1, us[p / 8]? = some u0 ∧ us[xs.getD p 0]? = some u1 ∧ geq (runG ns liv beg u1) (stepG ns liv (runG ns liv beg u0) (p % 8)) = true
  num : us.length = met (nxL xs) xs.length
  met_ : ∀ p, p < xs.length → p / 8 < met (nxL xs) p ∧ xs.getD p 0 ≤ met (nxL xs) p
end

variable {ns : List Nd} {liv beg : Nat → Bool} {us : List (List Nat)} {xs : List Nat}

theorem expl_start : Expl ns liv beg [[]] [] := by
  refine ⟨rfl, fun u hu x hx => ?_, by simp, fun p hp => by simp at hp, rfl, fun p hp => by simp at hp⟩
  simp at hu
  subst hu
  simp at hx

theorem expl_old (h : Expl ns liv beg us xs) {u0 u1 : List Nat} {j : Nat} (h0 : us[xs.length / 8]? = some u0) (h1 : us[j]? = some u1) (hq : geq (runG ns liv beg u1) (stepG ns liv (runG ns liv beg u0) (xs.length % 8)) = true) : Expl ns liv beg us (xs ++ [j]) := by
  have hj := (List.getElem?_eq_some_iff.1 h1).1
  have hi := (List.getElem?_eq_some_iff.1 h0).1
  have hn := h.num
  refine ⟨h.first, h.let8, h.dist, fun p hp => ?_, ?_, fun p hp => ?_⟩
  · rw [List.length_append, List.length_singleton] at hp
    by_cases e : p = xs.length
    · subst e; rw [getD_snoc_eq]; exact ⟨u0, u1, h0, h1, hq⟩
    · rw [getD_snoc_lt (by omega)]; exact h.ok p (by omega)
  · rw [List.length_append, List.length_singleton, met, met_snoc _ (Nat.le_refl _), nxL_at, getD_snoc_eq, ← h.num]
    omega
  · rw [List.length_append, List.length_singleton] at hp
    rw [met_snoc p (by omega)]
    by_cases e : p = xs.length
    · subst e; rw [getD_snoc_eq, ← h.num]; exact ⟨hi, by omega⟩
    · rw [getD_snoc_lt (by omega)]; exact h.met_ p (by omega)

theorem geq_gv {g k : Nat → Bool} (h : geq g k = false) : gv g ≠ gv k := fun e => by
  have : geq g k = true := geq_iff.2 (gv_inj e)
  rw [h] at this
  cases this

theorem expl_new (h : Expl ns liv beg us xs) {u0 : List Nat} (h0 : us[xs.length / 8]? = some u0) (hall : ∀ u ∈ us, geq (runG ns liv beg u) (stepG ns liv (runG ns liv beg u0) (xs.length % 8)) = false) : Expl ns liv beg (us ++ [u0 ++ [xs.length % 8]]) (xs ++ [us.length]) := by
  have hi := (List.getElem?_eq_some_iff.1 h0).1
  have hn := h.num
  have old : ∀ {i : Nat} {u : List Nat}, us[i]? = some u → (us ++ [u0 ++ [xs.length % 8]])[i]? = some u := fun {i u} hu => by
    rw [List.getElem?_append_left (List.getElem?_eq_some_iff.1 hu).1]; exact hu
  refine ⟨old h.first, fun u hu => ?_, ?_, fun p hp => ?_, ?_, fun p hp => ?_⟩
  · rcases List.mem_append.1 hu with hu | hu
    · exact h.let8 u hu
    · simp at hu
      subst hu
      intro x hx
      rcases List.mem_append.1 hx with hx | hx
      · exact h.let8 u0 (List.mem_of_getElem? h0) x hx
      · simp at hx; omega
  · rw [List.map_append, List.nodup_append]
    refine ⟨h.dist, by simp, fun a ha b hb => ?_⟩
    simp at hb
    subst hb
    obtain ⟨u, hu, rfl⟩ := List.mem_map.1 ha
    rw [runG_snoc]
    exact geq_gv (hall u hu)
  · rw [List.length_append, List.length_singleton] at hp
    by_cases e : p = xs.length
    · subst e
      rw [getD_snoc_eq]
      refine ⟨u0, u0 ++ [xs.length % 8], old h0, by simp, ?_⟩
      rw [runG_snoc]
      exact geq_iff.2 fun j _ => rfl
    · rw [getD_snoc_lt (by omega)]
      obtain ⟨a, b, h1, h2, h3⟩ := h.ok p (by omega)
      exact ⟨a, b, old h1, old h2, h3⟩
  · rw [List.length_append, List.length_singleton, List.length_append, List.length_singleton, met, met_snoc _ (Nat.le_refl _), nxL_at, getD_snoc_eq, ← h.num]
    omega
  · rw [List.length_append, List.length_singleton] at hp
    rw [met_snoc p (by omega)]
    by_cases e : p = xs.length
    · subst e; rw [getD_snoc_eq, ← h.num]; exact ⟨hi, by omega⟩
    · rw [getD_snoc_lt (by omega)]; exact h.met_ p (by omega)

theorem expl_few (hg : Good ns) (ht : Seg 0 ns) (hl : LivP ns (calmsTo ns ns.length) liv) (h : Expl ns liv (begB ns liv) us xs) : us.length ≤ 796594185 := few hg ht hl us h.let8 h.dist

/-- All were looked at. -/
theorem expl_numbered (h : Expl ns liv beg us xs) (he : xs.length = 8 * us.length) : Numbered us.length (nxL xs) := by
  refine ⟨fun p hp => ?_, ?_⟩
  · rw [nxL_at]; exact h.met_ p (by omega)
  · rw [← he, ← h.num]

end Go.Proofs.Ytjagijohfkffiaa

/- Plain mathematics: machines as lists of states; when they are well formed; their bytes. -/
namespace Go.Proofs.Ytjagijohfkffiaa
open Go.RowKit
set_option linter.unusedVariables false

/-- A state: what it tells, where its letters lead. -/
structure St where
  out : Int
  next : List Int

def stAt (ss : List St) (i : Nat) : St := ss.getD i ⟨0, []⟩
/-- Each state has eight letters. -/
def Eight (ss : List St) : Prop := ∀ s ∈ ss, s.next.length = 8

def stCells (s : St) : List Value := Value.int .i64 s.out :: s.next.map (Value.int .i64)
def stArr (s : St) : Array Value := (stCells s).toArray
def flatS (ss : List St) : List Value := ss.flatMap stCells

theorem eight_cases {l : List Int} (h : l.length = 8) : ∃ a0 a1 a2 a3 a4 a5 a6 a7, l = [a0, a1, a2, a3, a4, a5, a6, a7] := by
  match l, h with
  | [a0, a1, a2, a3, a4, a5, a6, a7], _ => exact ⟨_, _, _, _, _, _, _, _, rfl⟩

theorem stCells_len {s : St} (h : s.next.length = 8) : (stCells s).length = 9 := by simp [stCells, h]
theorem flatS_snoc (ss : List St) (s : St) : flatS (ss ++ [s]) = flatS ss ++ stCells s := by simp [flatS]

theorem eight_at {ss : List St} (h : Eight ss) {i : Nat} (hi : i < ss.length) : (stAt ss i).next.length = 8 := by
  have : stAt ss i = ss[i] := by simp [stAt, List.getD, List.getElem?_eq_getElem hi]
  rw [this]; exact h _ (List.getElem_mem hi)

theorem flatS_get {ss : List St} (h : Eight ss) {i : Nat} (hi : i < ss.length) {j : Nat} (hj : j < 9) : (flatS ss)[i * 9 + j]? = (stCells (stAt ss i))[j]? := by
  induction ss generalizing i with
  | nil => simp at hi
  | cons s ss ih =>
    have h1 : s.next.length = 8 := h s (by simp)
    have hs := stCells_len h1
    cases i with
    | zero =>
      show (stCells s ++ flatS ss)[0 * 9 + j]? = _
      rw [List.getElem?_append_left (by omega)]
      simp [stAt]
    | succ i =>
      show (stCells s ++ flatS ss)[(i + 1) * 9 + j]? = _
      rw [List.getElem?_append_right (by omega), hs, show (i + 1) * 9 + j - 9 = i * 9 + j by omega, ih (fun x hx => h x (by simp [hx])) (by simpa using hi)]
      simp [stAt]

end Go.Proofs.Ytjagijohfkffiaa

/- The walk of States. -/
namespace Go.Proofs.Ytjagijohfkffiaa
open Go.RowKit
set_option linter.unusedVariables false

theorem GrpAt.num {w w' : World} {T b o : Nat} {row : Option Nat} {g : Nat → Bool} (h : GrpAt w b o g) (n : NumF w w' T row) (h1 : b ≠ T) (h2 : row ≠ some b) : GrpAt w' b o g :=
  ⟨fun j hj => (n.cell (p := ⟨b, o + j, none⟩) h.lt h1 (fun e => h2 e.symm)).trans (h.c j hj), fun j hj => (n.frozen (p := ⟨b, o + j, none⟩) h.lt h1 (fun e => h2 e.symm)).trans (h.f j hj)⟩
theorem own_num {w w' : World} {T B e s n : Nat} {row : Option Nat} {v : Value} {xs : List Value} (h : w.ownsRow B e s v n xs) (f : NumF w w' T row) (h1 : v.ownBlock ≠ some T) (h2 : v.ownBlock = none ∨ v.ownBlock ≠ row) : w'.ownsRow B e s v n xs := by
  refine ⟨h.1, ?_⟩
  rcases h.2 with h0 | ⟨g, cap, cur, ev, hb, hg, r⟩
  · exact Or.inl h0
  · subst ev
    refine Or.inr ⟨g, cap, cur, rfl, hb, ?_, r⟩
    rw [f.block g (heap_lt hg) (fun e => h1 (by rw [← e]; rfl)) (fun e => by
      rcases h2 with h2 | h2
      · simp [Value.ownBlock] at h2
      · exact h2 (by rw [← e]; rfl))]
    exact hg
theorem below_num {B0 : Nat} {a w w' : World} {T : Nat} {row : Option Nat} (h : Below B0 a w) (f : NumF w w' T row) (hB : B0 ≤ w.heap.size) (h1 : B0 ≤ T) (h2 : ∀ k, row = some k → B0 ≤ k) : Below B0 a w' :=
  ⟨f.os.trans h.os, f.tape.trans h.tape, f.output.trans h.output, Nat.le_trans h.size f.size, fun k hk => (f.block k (by omega) (by omega) (fun e => by have := h2 k e.symm; omega)).trans (h.block k hk)⟩
theorem OutM.num {w w' : World} {T P : Nat} {row : Option Nat} {ns : List Nd} {liv beg : Nat → Bool} (h : OutM w P ns liv beg) (f : NumF w w' T row) (h1 : P ≠ T) (h2 : row ≠ some P) : OutM w' P ns liv beg :=
  ⟨fun x N hx hN => (f.cell (p := ⟨P, x * 256 + N, none⟩) h.lt h1 (fun e => h2 e.symm)).trans (h.bef x N hx hN), h.liv.num f h1 h2, h.beg.num f h1 h2⟩

theorem own_new {w : World} {cs : Array Value} {t n size : Nat} (hs : cs.size = n * size) (hn : n ≤ maxLen) : (w.alloc (.cells cs t)).ownsRow w.heap.size t size (.slice (some ⟨w.heap.size, 0, none⟩) n n) n cs.toList := by
  refine ⟨by simpa using hs, Or.inr ⟨w.heap.size, n, cs, rfl, Nat.le_refl _, heap_alloc_last w _, Nat.le_refl _, hn, hs, ?_⟩⟩
  rw [List.take_of_length_le (by simp; omega)]

/-- The states that were looked at, as they are laid. -/
def StOk (ns : List Nd) (liv beg : Nat → Bool) (us : List (List Nat)) (xs : List Nat) (SS : List St) : Prop := ∀ i s, SS[i]? = some s → ∃ u, us[i]? = some u ∧ 8 * i + 8 ≤ xs.length ∧ s = ⟨verdG liv (runG ns liv beg u), (List.range 8).map fun l => ((xs.getD (8 * i + l) 0 : Nat) : Int)⟩
theorem stOk_more {ns : List Nd} {liv beg : Nat → Bool} {us vs : List (List Nat)} {xs ys : List Nat} {SS : List St} (h : StOk ns liv beg us xs SS) : StOk ns liv beg (us ++ vs) (xs ++ ys) SS := fun i s hi => by
  obtain ⟨u, h1, h2, h3⟩ := h i s hi
  refine ⟨u, by rw [List.getElem?_append_left (List.getElem?_eq_some_iff.1 h1).1]; exact h1, by rw [List.length_append]; omega, ?_⟩
  rw [h3]
  congr 1
  refine List.map_congr_left fun l hl => ?_
  have : l < 8 := by simpa using hl
  simp [List.getD, List.getElem?_append_left (show 8 * i + l < xs.length by omega)]
theorem Try.infoSt9 : (Try.prog.info? 150).map (fun i => (i.zero, i.size, i.bytes)) = some (some (.agg #[.int .i64 0, .int .i64 0, .int .i64 0, .int .i64 0, .int .i64 0, .int .i64 0, .int .i64 0, .int .i64 0, .int .i64 0]), 9, 72) := by kernel_rfl

/-- A state that is being made, in memory: nine cells. -/
structure NineM (w : World) (b : Nat) (o : Nat) (xs : List Nat) : Prop where
  c0 : w.cell? ⟨b, 0, none⟩ = some (.int .i64 (o : Nat))
  c : ∀ m, m < 8 → w.cell? ⟨b, 1 + m, none⟩ = some (.int .i64 (xs.getD m 0 : Nat))
  f : ∀ m, m < 9 → w.frozen? ⟨b, m, none⟩ = false
theorem NineM.lt {w : World} {b o : Nat} {xs : List Nat} (h : NineM w b o xs) : b < w.heap.size := World.block_lt_of_cell? w ⟨b, 0, none⟩ h.c0
theorem NineM.below {w w' : World} {b o : Nat} {xs : List Nat} (h : NineM w b o xs) (hb : Below w.heap.size w w') : NineM w' b o xs :=
  ⟨(hb.cell (p := ⟨b, 0, none⟩) h.lt).trans h.c0, fun m hm => (hb.cell (p := ⟨b, 1 + m, none⟩) h.lt).trans (h.c m hm), fun m hm => (hb.frozen (p := ⟨b, m, none⟩) h.lt).trans (h.f m hm)⟩
theorem NineM.num {w w' : World} {T b o : Nat} {row : Option Nat} {xs : List Nat} (h : NineM w b o xs) (n : NumF w w' T row) (h1 : b ≠ T) (h2 : row ≠ some b) : NineM w' b o xs :=
  ⟨(n.cell (p := ⟨b, 0, none⟩) h.lt h1 (fun e => h2 e.symm)).trans h.c0, fun m hm => (n.cell (p := ⟨b, 1 + m, none⟩) h.lt h1 (fun e => h2 e.symm)).trans (h.c m hm), fun m hm => (n.frozen (p := ⟨b, m, none⟩) h.lt h1 (fun e => h2 e.symm)).trans (h.f m hm)⟩
theorem NineM.set {w : World} {b o : Nat} {xs : List Nat} (h : NineM w b o xs) {j : Nat} (hl : xs.length < 8) : NineM (w.setCell ⟨b, 1 + xs.length, none⟩ (.int .i64 (j : Nat))) b o (xs ++ [j]) := by
  refine ⟨?_, fun m hm => ?_, fun m hm => by rw [World.frozen?_setCell]; exact h.f m hm⟩
  · rw [World.cell?_setCell_other _ ⟨b, 1 + xs.length, none⟩ ⟨b, 0, none⟩ _ (fun q => by have := congrArg Addr.off q; simp at this)]; exact h.c0
  · by_cases e : m = xs.length
    · subst e
      rw [World.cell?_setCell_same _ _ _ (h.c _ hm), getD_snoc_eq]
    · rw [World.cell?_setCell_other _ ⟨b, 1 + xs.length, none⟩ ⟨b, 1 + m, none⟩ _ (fun q => e (by have := congrArg Addr.off q; simp at this; omega)), h.c m hm]
      by_cases h2 : m < xs.length
      · rw [getD_snoc_lt h2]
      · have : (xs ++ [j]).getD m 0 = 0 := by simp [List.getD, List.getElem?_eq_none (show (xs ++ [j]).length ≤ m by simp; omega)]
        rw [this]
        simp [List.getD, List.getElem?_eq_none (show xs.length ≤ m by omega)]
theorem NineM.other {w : World} {b o : Nat} {xs : List Nat} (h : NineM w b o xs) (p : Addr) (v : Value) (hp : p.block ≠ b) : NineM (w.setCell p v) b o xs :=
  ⟨by rw [World.cell?_setCell_other _ p ⟨b, 0, none⟩ _ (fun q => hp (congrArg Addr.block q))]; exact h.c0, fun m hm => by rw [World.cell?_setCell_other _ p ⟨b, 1 + m, none⟩ _ (fun q => hp (congrArg Addr.block q))]; exact h.c m hm, fun m hm => by rw [World.frozen?_setCell]; exact h.f m hm⟩

theorem nine_new (w : World) (o : Nat) (t : TypeId) : NineM (w.alloc (.cells #[.int .i64 (o : Nat), .int .i64 0, .int .i64 0, .int .i64 0, .int .i64 0, .int .i64 0, .int .i64 0, .int .i64 0, .int .i64 0] t)) w.heap.size o [] := by
  refine ⟨by simp, fun m hm => ?_, fun m hm => by simp⟩
  have : m = 0 ∨ m = 1 ∨ m = 2 ∨ m = 3 ∨ m = 4 ∨ m = 5 ∨ m = 6 ∨ m = 7 := by omega
  rcases this with rfl | rfl | rfl | rfl | rfl | rfl | rfl | rfl <;> simp
theorem ExM.set {w : World} {B T : Nat} {v : Value} {gs : List (Nat → Bool)} (h : ExM w B T v gs) (p : Addr) (u : Value) (h1 : p.block ≠ T) (h2 : v.ownBlock ≠ some p.block) : ExM (w.setCell p u) B T v gs :=
  ⟨by rw [World.cell?_setCell_other _ p ⟨T, 0, none⟩ _ (fun q => h1 (congrArg Addr.block q))]; exact h.c, by rw [World.frozen?_setCell]; exact h.f,
    h.own.kept (row := some p.block) ⟨rfl, rfl, rfl, by rw [World.size_setCell]; exact Nat.le_refl _, fun q hq hne => Below.heap_setCell _ _ _ _ (fun e => hne (by rw [e]))⟩ (Or.inr h2), h.ne⟩
theorem own_setx {w : World} {B e s n : Nat} {v : Value} {xs : List Value} (h : w.ownsRow B e s v n xs) (p : Addr) (u : Value) (h2 : v.ownBlock ≠ some p.block) : (w.setCell p u).ownsRow B e s v n xs :=
  h.kept (row := some p.block) ⟨rfl, rfl, rfl, by rw [World.size_setCell]; exact Nat.le_refl _, fun q hq hne => Below.heap_setCell _ _ _ _ (fun e => hne (by rw [e]))⟩ (Or.inr h2)
theorem ExM.grown {w w' : World} {B T : Nat} {v : Value} {gs : List (Nat → Bool)} {row : Option Nat} (h : ExM w B T v gs) (hg : w.grownBy w' row) (h1 : row ≠ some T) (h2 : v.ownBlock = none ∨ v.ownBlock ≠ row) : ExM w' B T v gs :=
  ⟨hg.cell h.c (fun e => h1 e.symm), (World.frozen?_of_block (a := ⟨T, 0, none⟩) (hg.block T h.lt (fun e => h1 e.symm))).trans h.f, h.own.kept hg h2, h.ne⟩

end Go.Proofs.Ytjagijohfkffiaa
