import Derived.Test.YtjagijohfkffiabCHEM12
import Derived.Test.YtjagijohfkffiabCHEM13
import Derived.Test.YtjagijohfkffiabCHEM17
import Derived.RowKit

/- Plain mathematics: how many states there are, at most, for every formula. -/
namespace Go.Proofs.Ytjagijohfkffiab
set_option linter.unusedVariables false

theorem relF_len : ∀ (ms : List Nd) (i : Nat), (relF i ms).length = ms.countP fun nd => tempB nd.op
  | [], _ => rfl
  | nd :: ms, i => by
    rw [relF, List.length_append, relF_len ms (i + 1), List.countP_cons]
    cases tempB nd.op <;> simp <;> omega

def nd_one (nd : Nd) : Bool := oneB nd.op
def nd_two (nd : Nd) : Bool := twoB nd.op
def nd_tmp (nd : Nd) : Bool := tempB nd.op
def nd_not (nd : Nd) : Bool := nd.op == 33
def cntN (p : Nd → Bool) (ms : List Nd) : Nat := ms.countP p
theorem cntN_snoc (p : Nd → Bool) (ms : List Nd) (nd : Nd) : cntN p (ms ++ [nd]) = cntN p ms + (if p nd = true then 1 else 0) := by unfold cntN; rw [List.countP_append, List.countP_singleton]
theorem cntN_app (p : Nd → Bool) (ms ls : List Nd) : cntN p (ms ++ ls) = cntN p ms + cntN p ls := by unfold cntN; rw [List.countP_append]
theorem filter_both {α : Type} (p : α → Bool) : ∀ l : List α, (l.filter p).length + (l.filter fun x => !p x).length = l.length
  | [] => rfl
  | x :: l => by
    have := filter_both p l
    cases h : p x <;> simp [h] <;> omega

theorem seg_counts {b : Nat} {ms : List Nd} (h : Seg b ms) : ms.length = 2 * cntN nd_two ms + 1 + cntN nd_one ms ∧ cntN nd_tmp ms + cntN nd_not ms ≤ cntN nd_one ms + cntN nd_two ms := by
  induction h using seg_ind with
  | leaf b op ho =>
    simp only [leafB, Bool.or_eq_true, beq_iff_eq] at ho
    rcases ho with (((h | h) | h) | h) | h <;> subst h <;> decide
  | one b op ms ho hs ih =>
    obtain ⟨h1, h2⟩ := ih
    rw [cntN_snoc, cntN_snoc, cntN_snoc, cntN_snoc, List.length_append, List.length_singleton]
    simp only [oneB, Bool.or_eq_true, beq_iff_eq] at ho
    rcases ho with ((h | h) | h) | h <;> subst h <;> simp [nd_one, nd_two, nd_tmp, nd_not, oneB, twoB, tempB] <;> omega
  | two b op ms ls ho h1 h2 ih1 ih2 =>
    obtain ⟨a1, a2⟩ := ih1
    obtain ⟨b1, b2⟩ := ih2
    rw [cntN_snoc, cntN_snoc, cntN_snoc, cntN_snoc, cntN_app, cntN_app, cntN_app, cntN_app, List.length_append, List.length_append, List.length_singleton]
    simp only [twoB, Bool.or_eq_true, beq_iff_eq] at ho
    rcases ho with ((h | h) | h) | h <;> subst h <;> simp [nd_one, nd_two, nd_tmp, nd_not, oneB, twoB, tempB] <;> omega

/-- Where no sign joins two, the nodes are a chain. -/
theorem seg_chain {b : Nat} {ms : List Nd} (h : Seg b ms) : cntN nd_two ms = 0 → cntN nd_not ms = 0 → ∀ i nd, ms[i]? = some nd → (i = 0 ∧ leafB nd.op = true) ∨ (0 < i ∧ oneB nd.op = true ∧ nd.op ≠ 33 ∧ nd.l = b + i - 1 ∧ nd.r = 0) := by
  induction h using seg_ind with
  | leaf b op ho =>
    intro _ _ i nd hi
    cases i with
    | zero => simp at hi; subst hi; exact Or.inl ⟨rfl, ho⟩
    | succ i => simp at hi
  | one b op ms ho hs ih =>
    intro h0 h1 i nd hi
    have hp := seg_pos hs
    rw [cntN_snoc] at h0 h1
    by_cases e : i < ms.length
    · rw [List.getElem?_append_left e] at hi
      exact ih (by omega) (by omega) i nd hi
    · rw [List.getElem?_append_right (by omega)] at hi
      have e2 : i = ms.length := by
        have := (List.getElem?_eq_some_iff.1 hi).1
        simp at this; omega
      subst e2
      simp at hi
      subst hi
      refine Or.inr ⟨hp, ho, fun e => ?_, rfl, rfl⟩
      dsimp only at e
      rw [e] at h1
      simp [nd_not] at h1
  | two b op ms ls ho h1 h2 ih1 ih2 =>
    intro h0
    rw [cntN_snoc] at h0
    simp [nd_two, ho] at h0

/-- The chain but for its last node. -/
theorem chain_seg : ∀ (ms : List Nd), (∀ i nd, ms[i]? = some nd → (i = 0 ∧ leafB nd.op = true ∧ nd.l = 0 ∧ nd.r = 0) ∨ (0 < i ∧ oneB nd.op = true ∧ nd.l = i - 1 ∧ nd.r = 0)) → 0 < ms.length → Seg 0 ms := by
  intro ms
  generalize hn : ms.length = n
  induction n generalizing ms with
  | zero => intro _ h; omega
  | succ n ih =>
    intro h _
    obtain ⟨ms', nd, rfl⟩ : ∃ ms' nd, ms = ms' ++ [nd] := ⟨ms.dropLast, ms.getLast (by intro e; rw [e] at hn; simp at hn), (List.dropLast_concat_getLast _).symm⟩
    rw [List.length_append, List.length_singleton] at hn
    have hl : ms'.length = n := by omega
    have hlast := h n nd (by rw [List.getElem?_append_right (by omega), hl]; simp)
    by_cases e : n = 0
    · subst e
      have : ms' = [] := List.eq_nil_of_length_eq_zero hl
      subst this
      rcases hlast with ⟨_, h1, h2, h3⟩ | ⟨h1, _⟩
      · obtain ⟨op, l, r⟩ := nd
        dsimp only at h1 h2 h3
        subst h2
        subst h3
        exact Seg.leaf 0 op h1
      · omega
    · have hs := ih ms' hl (fun i m hi => h i m (by rw [List.getElem?_append_left (List.getElem?_eq_some_iff.1 hi).1]; exact hi)) (by omega)
      rcases hlast with ⟨h1, _⟩ | ⟨_, h1, h2, h3⟩
      · omega
      · obtain ⟨op, l, r⟩ := nd
        dsimp only at h1 h2 h3
        subst h2
        subst h3
        have := Seg.one 0 op ms' h1 hs
        rwa [hl, Nat.zero_add] at this

theorem good_take {ns : List Nd} (hg : Good ns) {m : Nat} (h0 : 0 < m) (hm : m ≤ ns.length) : Good (ns.take m) := by
  have := hg.le
  refine ⟨by rw [List.length_take]; omega, by rw [List.length_take]; omega, fun i nd hi => ?_⟩
  have hl := (List.getElem?_eq_some_iff.1 hi).1
  rw [List.length_take] at hl
  rw [List.getElem?_take_of_lt (by omega)] at hi
  exact hg.wf i nd hi

/-- The lower bits are those of the part. -/
theorem back_take {ns : List Nd} (hg : Good ns) {m : Nat} (h0 : 0 < m) (hm : m ≤ ns.length) (N : Nat) : ∀ u, EqOn m (tb (back ns u N)) (tb (back (ns.take m) u N))
  | [] => EqOn.refl _ _
  | a :: u => by
    have hl : (ns.take m).length = m := by rw [List.length_take]; omega
    have h1 := back_take hg h0 hm N u
    have hst : Step (ns.take m) a (tb (bef ns a (back ns u N))) (tb (back ns u N)) := fun k nd hk => by
      have hkl := (List.getElem?_eq_some_iff.1 hk).1
      rw [List.getElem?_take_of_lt (by omega)] at hk
      exact bef_step hg a _ k nd hk
    have := bef_eqOn (good_take hg h0 hm) hst (N := back (ns.take m) u N) (by rw [hl]; exact h1.symm)
    rw [hl] at this
    exact this.symm

def orS (ns : List Nd) (σ : Nat → Bool) : List Nat → Nat → Bool
  | [], _ => false
  | a :: u, b => hOf ns σ (a :: u) b || orS ns σ u b
def andS (ns : List Nd) (σ : Nat → Bool) : List Nat → Nat → Bool
  | [], _ => true
  | a :: u, b => hOf ns σ (a :: u) b && andS ns σ u b
theorem orS_rise {ns : List Nd} (hg : Good ns) {σ : Nat → Bool} (hs : Signs σ ns) (ht : σ (ns.length - 1) = true) (h6 : (relF 0 ns).length ≤ 6) : ∀ u, Rise 6 (orS ns σ u)
  | [] => fun a b _ _ _ h => by simp [orS] at h
  | a :: u => fun x y hx hy hsub h => by
    rw [orS, Bool.or_eq_true] at h ⊢
    exact h.imp (hOf_rise hg hs ht h6 (by simp) x y hx hy hsub) (orS_rise hg hs ht h6 u x y hx hy hsub)
theorem andS_rise {ns : List Nd} (hg : Good ns) {σ : Nat → Bool} (hs : Signs σ ns) (ht : σ (ns.length - 1) = true) (h6 : (relF 0 ns).length ≤ 6) : ∀ u, Rise 6 (andS ns σ u)
  | [] => fun a b _ _ _ h => rfl
  | a :: u => fun x y hx hy hsub h => by
    rw [andS, Bool.and_eq_true] at h ⊢
    exact ⟨hOf_rise hg hs ht h6 (by simp) x y hx hy hsub h.1, andS_rise hg hs ht h6 u x y hx hy hsub h.2⟩

/-- The same by some rising function of six bools for each word. -/
theorem few_by {ns : List Nd} (hg : Good ns) {liv : Nat → Bool} (hl : LivP ns (calmsTo ns ns.length) liv) (us : List (List Nat)) (hu : ∀ u ∈ us, ∀ x ∈ u, x < 8)
    (hd : (us.map fun u => gv (runG ns liv (begB ns liv) u)).Nodup) (F : List Nat → Nat → Bool) (hF : ∀ u ∈ us, Rise 6 (F u)) (P : Nat → Nat) (hP : ∀ N, P N < 2 ^ 6) (C : Nat → Bool → Bool)
    (hC : ∀ u ∈ us, ∀ N, (back ns u N).testBit (ns.length - 1) = C N (F u (P N))) : us.length ≤ 796594176 := by
  have key : (us.map fun u => tab 6 (F u)).Nodup := by
    rw [List.nodup_iff_pairwise_ne, List.pairwise_map] at hd ⊢
    refine List.Pairwise.imp_of_mem ?_ hd
    intro u v hu1 hv1 hne e
    refine hne (gv_congr fun N hN => ?_)
    rw [Bool.eq_iff_iff, runG_iff hg hl u (hu u hu1), runG_iff hg hl v (hu v hv1), hC u hu1, hC v hv1, tab_inj e (hP N)]
  have := nodup_sub _ m6 key (fun x hx => by
    obtain ⟨u, hu1, rfl⟩ := List.mem_map.1 hx
    exact mem_m6 (hF u hu1))
  rw [m6_len] at this
  simpa using this

theorem few_two {ns : List Nd} (hg : Good ns) (ht : Seg 0 ns) {liv : Nat → Bool} (hl : LivP ns (calmsTo ns ns.length) liv) (us : List (List Nat)) (hu : ∀ u ∈ us, 2 ≤ u.length ∧ ∀ x ∈ u, x < 8)
    (hd : (us.map fun u => gv (runG ns liv (begB ns liv) u)).Nodup) : us.length ≤ 796594176 := by
  have h8 := hg.le
  by_cases h6 : (relF 0 ns).length ≤ 6
  · exact few_six hg ht h6 hl us (fun u h => ⟨fun e => by have := (hu u h).1; rw [e] at this; simp at this, (hu u h).2⟩) hd
  · obtain ⟨c1, c2⟩ := seg_counts ht
    rw [relF_len, show ns.countP (fun nd => tempB nd.op) = cntN nd_tmp ns from rfl] at h6
    have n2 : cntN nd_two ns = 0 := by omega
    have n3 : cntN nd_not ns = 0 := by omega
    have hlen : ns.length = 8 := by omega
    have hch := seg_chain ht n2 n3
    have wf := hg.wf
    have hg7 := good_take hg (m := 7) (by omega) (by omega)
    have l7 : (ns.take 7).length = 7 := by rw [List.length_take]; omega
    have s7 : Seg 0 (ns.take 7) := chain_seg _ (fun i nd hi => by
      have hil := (List.getElem?_eq_some_iff.1 hi).1
      rw [List.getElem?_take_of_lt (by omega)] at hi
      rcases hch i nd hi with ⟨h1, h2⟩ | ⟨h1, h2, _, h3, h4⟩
      · rcases wf i nd hi with ⟨_, a, b⟩ | ⟨a, b, _⟩ | ⟨a, b, _⟩
        · exact Or.inl ⟨h1, h2, a, b⟩
        · omega
        · omega
      · exact Or.inr ⟨h1, h2, by omega, h4⟩) (by omega)
    have h67 : (relF 0 (ns.take 7)).length ≤ 6 := by
      obtain ⟨d1, d2⟩ := seg_counts s7
      rw [relF_len, show (ns.take 7).countP (fun nd => tempB nd.op) = cntN nd_tmp (ns.take 7) from rfl]
      omega
    obtain ⟨σ, hr, hs0⟩ := seg_sign s7 true
    have hs : Signs σ (ns.take 7) := fun i nd hi => by have := hs0 i nd hi; rwa [Nat.zero_add] at this
    rw [Nat.zero_add] at hr
    obtain ⟨nd, hn⟩ : ∃ nd, ns[7]? = some nd := ⟨ns[7], List.getElem?_eq_getElem (by omega)⟩
    have hP : ∀ N, pj (ns.take 7) σ N < 2 ^ 6 := fun N => cdTo_pow _ (by omega)
    have b6 : ∀ u N, u ≠ [] → (back ns u N).testBit 6 = hOf (ns.take 7) σ u (pj (ns.take 7) σ N) := fun u N hne => by
      rw [hOf_pj hg7 hs h67 hne, l7]
      exact back_take hg (m := 7) (by omega) (by omega) N u 6 (by omega)
    rcases hch 7 nd hn with ⟨h1, _⟩ | ⟨_, h1, h2, h3, _⟩
    · omega
    · have hstep : ∀ a u N, (back ns (a :: u) N).testBit 7 = lawB nd.op a ((back ns (a :: u) N).testBit 6) ((back ns (a :: u) N).testBit nd.r) ((back ns u N).testBit 7) ((back ns u N).testBit 6) := fun a u N => by
        have := bef_step hg a (back ns u N) 7 nd hn
        simp only [tb] at this
        rw [show nd.l = 6 by omega] at this
        exact this
      simp only [oneB, Bool.or_eq_true, beq_iff_eq] at h1
      rcases h1 with ((h1 | h1) | h1) | h1
      · exact absurd h1 h2
      · refine few_by hg hl us (fun u h => (hu u h).2) hd (fun u => hOf (ns.take 7) σ u.tail) (fun u h => ?_) (pj (ns.take 7) σ) hP (fun _ b => b) (fun u h N => ?_)
        · obtain ⟨q1, _⟩ := hu u h
          refine hOf_rise hg7 hs hr h67 ?_
          cases u with
          | nil => simp at q1
          | cons a u => cases u with
            | nil => simp at q1
            | cons b u => simp
        · obtain ⟨q1, _⟩ := hu u h
          cases u with
          | nil => simp at q1
          | cons a u =>
            rw [hlen]
            show (back ns (a :: u) N).testBit 7 = _
            rw [hstep]
            simp only [lawB, h1]
            simp only [List.tail_cons]
            exact b6 u N (by intro e; rw [e] at q1; simp at q1)
      · have root : ∀ u N, (back ns u N).testBit 7 = (orS (ns.take 7) σ u (pj (ns.take 7) σ N) || N.testBit 7) := by
          intro u N
          induction u with
          | nil => simp [orS, back]
          | cons a u ih =>
            rw [hstep]
            simp only [lawB, h1]
            rw [orS, ← b6 (a :: u) N (by simp), Bool.or_assoc, ← ih]
            simp
        refine few_by hg hl us (fun u h => (hu u h).2) hd (orS (ns.take 7) σ) (fun u _ => orS_rise hg7 hs hr h67 u) (pj (ns.take 7) σ) hP (fun N b => b || N.testBit 7) (fun u h N => ?_)
        rw [hlen]
        exact root u N
      · have root : ∀ u N, (back ns u N).testBit 7 = (andS (ns.take 7) σ u (pj (ns.take 7) σ N) && N.testBit 7) := by
          intro u N
          induction u with
          | nil => simp [andS, back]
          | cons a u ih =>
            rw [hstep]
            simp only [lawB, h1]
            rw [andS, ← b6 (a :: u) N (by simp), Bool.and_assoc, ← ih]
            simp
        refine few_by hg hl us (fun u h => (hu u h).2) hd (andS (ns.take 7) σ) (fun u _ => andS_rise hg7 hs hr h67 u) (pj (ns.take 7) σ) hP (fun N b => b && N.testBit 7) (fun u h N => ?_)
        rw [hlen]
        exact root u N

/-- Words that lead to unlike groups are few. -/
theorem few {ns : List Nd} (hg : Good ns) (ht : Seg 0 ns) {liv : Nat → Bool} (hl : LivP ns (calmsTo ns ns.length) liv) (us : List (List Nat)) (hu : ∀ u ∈ us, ∀ x ∈ u, x < 8)
    (hd : (us.map fun u => gv (runG ns liv (begB ns liv) u)).Nodup) : us.length ≤ 796594185 := by
  have hnd : us.Nodup := by
    rw [List.nodup_iff_pairwise_ne, List.pairwise_map] at hd
    rw [List.nodup_iff_pairwise_ne]
    exact hd.imp fun h e => h (by rw [e])
  have h1 := few_two hg ht hl (us.filter fun u => decide (2 ≤ u.length)) (fun u h => by
    rw [List.mem_filter] at h
    exact ⟨by simpa using h.2, hu u h.1⟩) (List.Nodup.sublist (List.Sublist.map _ List.filter_sublist) hd)
  have h2 : (us.filter fun u => !decide (2 ≤ u.length)).length ≤ 9 := by
    have := nodup_sub (us.filter fun u => !decide (2 ≤ u.length)) ([] :: (List.range 8).map fun x => [x]) (hnd.sublist List.filter_sublist) (fun u h => by
      rw [List.mem_filter] at h
      obtain ⟨h3, h4⟩ := h
      cases u with
      | nil => simp
      | cons a u => cases u with
        | nil =>
          have := hu [a] h3 a (by simp)
          simp [this]
        | cons b u => simp at h4)
    simpa using this
  have h3 := filter_both (fun u : List Nat => decide (2 ≤ u.length)) us
  omega

end Go.Proofs.Ytjagijohfkffiab

/- Plain mathematics: machines that tell the same, have no state too many and number their states as they are met are one. -/
namespace Go.Proofs.Ytjagijohfkffiab

/-- How many states have been met behind p looks. -/
def met (nx : Nat → Nat → Nat) : Nat → Nat
  | 0 => 1
  | p + 1 => max (met nx p) (nx (p / 8) (p % 8) + 1)

end Go.Proofs.Ytjagijohfkffiab

/- Plain mathematics: the states as they are met. -/
namespace Go.Proofs.Ytjagijohfkffiab
set_option linter.unusedVariables false

theorem getD_snoc_lt {xs : List Nat} {x p : Nat} (h : p < xs.length) : (xs ++ [x]).getD p 0 = xs.getD p 0 := by simp [List.getD, List.getElem?_append_left h]
theorem getD_snoc_eq (xs : List Nat) (x : Nat) : (xs ++ [x]).getD xs.length 0 = x := by simp [List.getD]
section
variable (ns : List Nd) (liv beg : Nat → Bool)

end

variable {ns : List Nd} {liv beg : Nat → Bool} {us : List (List Nat)} {xs : List Nat}

end Go.Proofs.Ytjagijohfkffiab

/- The walk of States. -/
namespace Go.Proofs.Ytjagijohfkffiab
open Go.RowKit
set_option linter.unusedVariables false

/-- A state that is being made, in memory: nine cells. -/
structure NineM (w : World) (b : Nat) (o : Nat) (xs : List Nat) : Prop where
  c0 : w.cell? ⟨b, 0, none⟩ = some (.int .i64 (o : Nat))
  c : ∀ m, m < 8 → w.cell? ⟨b, 1 + m, none⟩ = some (.int .i64 (xs.getD m 0 : Nat))
  f : ∀ m, m < 9 → w.frozen? ⟨b, m, none⟩ = false
theorem NineM.lt {w : World} {b o : Nat} {xs : List Nat} (h : NineM w b o xs) : b < w.heap.size := World.block_lt_of_cell? w ⟨b, 0, none⟩ h.c0
theorem NineM.below {w w' : World} {b o : Nat} {xs : List Nat} (h : NineM w b o xs) (hb : Below w.heap.size w w') : NineM w' b o xs :=
  ⟨(hb.cell (p := ⟨b, 0, none⟩) h.lt).trans h.c0, fun m hm => (hb.cell (p := ⟨b, 1 + m, none⟩) h.lt).trans (h.c m hm), fun m hm => (hb.frozen (p := ⟨b, m, none⟩) h.lt).trans (h.f m hm)⟩
theorem NineM.set {w : World} {b o : Nat} {xs : List Nat} (h : NineM w b o xs) {j : Nat} (hl : xs.length < 8) : NineM (w.setCell ⟨b, 1 + xs.length, none⟩ (.int .i64 (j : Nat))) b o (xs ++ [j]) := by
  refine ⟨?_, fun m hm => ?_, fun m hm => by rw [World.frozen?_setCell]; exact h.f m hm⟩
  · rw [World.cell?_setCell_other _ ⟨b, 1 + xs.length, none⟩ ⟨b, 0, none⟩ _ (fun q => by have := congrArg Addr.off q; simp at this)]; exact h.c0
  · by_cases e : m = xs.length
    · subst e
      rw [World.cell?_setCell_same _ _ _ (h.c _ hm), getD_snoc_eq]
    · rw [World.cell?_setCell_other _ ⟨b, 1 + xs.length, none⟩ ⟨b, 1 + m, none⟩ _ (fun q => e (by have := congrArg Addr.off q; simp at this; omega)), h.c m hm]
      by_cases h2 : m < xs.length
      · rw [getD_snoc_lt h2]
      · have : (xs ++ [j]).getD m 0 = 0 := by simp [List.getD, List.getElem?_eq_none (show (xs ++ [j]).length ≤ m by simp; omega)]
        rw [this]
        simp [List.getD, List.getElem?_eq_none (show xs.length ≤ m by omega)]
theorem NineM.other {w : World} {b o : Nat} {xs : List Nat} (h : NineM w b o xs) (p : Addr) (v : Value) (hp : p.block ≠ b) : NineM (w.setCell p v) b o xs :=
  ⟨by rw [World.cell?_setCell_other _ p ⟨b, 0, none⟩ _ (fun q => hp (congrArg Addr.block q))]; exact h.c0, fun m hm => by rw [World.cell?_setCell_other _ p ⟨b, 1 + m, none⟩ _ (fun q => hp (congrArg Addr.block q))]; exact h.c m hm, fun m hm => by rw [World.frozen?_setCell]; exact h.f m hm⟩

theorem ExM.set {w : World} {B T : Nat} {v : Value} {gs : List (Nat → Bool)} (h : ExM w B T v gs) (p : Addr) (u : Value) (h1 : p.block ≠ T) (h2 : v.ownBlock ≠ some p.block) : ExM (w.setCell p u) B T v gs :=
  ⟨by rw [World.cell?_setCell_other _ p ⟨T, 0, none⟩ _ (fun q => h1 (congrArg Addr.block q))]; exact h.c, by rw [World.frozen?_setCell]; exact h.f,
    h.own.kept (row := some p.block) ⟨rfl, rfl, rfl, by rw [World.size_setCell]; exact Nat.le_refl _, fun q hq hne => Below.heap_setCell _ _ _ _ (fun e => hne (by rw [e]))⟩ (Or.inr h2), h.ne⟩
theorem ExM.grown {w w' : World} {B T : Nat} {v : Value} {gs : List (Nat → Bool)} {row : Option Nat} (h : ExM w B T v gs) (hg : w.grownBy w' row) (h1 : row ≠ some T) (h2 : v.ownBlock = none ∨ v.ownBlock ≠ row) : ExM w' B T v gs :=
  ⟨hg.cell h.c (fun e => h1 e.symm), (World.frozen?_of_block (a := ⟨T, 0, none⟩) (hg.block T h.lt (fun e => h1 e.symm))).trans h.f, h.own.kept hg h2, h.ne⟩

end Go.Proofs.Ytjagijohfkffiab

/- The walk of States. -/
namespace Go.Proofs.Ytjagijohfkffiab
open Go.RowKit
set_option linter.unusedVariables false

end Go.Proofs.Ytjagijohfkffiab

/- The walks of tells, without. -/
namespace Go.Proofs.Ytjagijohfkffiab
open Go.RowKit
set_option linter.unusedVariables false

/-- States that are read. -/
structure StR (w : World) (g n : Nat) (out : Nat → Nat) (nx : Nat → Nat → Nat) : Prop where
  lt : g < w.heap.size
  c0 : ∀ i, i < n → w.cell? ⟨g, i * 9, none⟩ = some (.int .i64 (out i : Nat))
  c : ∀ i m, i < n → m < 8 → w.cell? ⟨g, i * 9 + 1 + m, none⟩ = some (.int .i64 (nx i m : Nat))
theorem StR.below {B : Nat} {w w' : World} {g n : Nat} {out : Nat → Nat} {nx : Nat → Nat → Nat} (h : StR w g n out nx) (hb : Below B w w') (hB : g < B) : StR w' g n out nx :=
  ⟨Nat.lt_of_lt_of_le h.lt hb.size, fun i hi => (hb.cell (p := ⟨g, i * 9, none⟩) hB).trans (h.c0 i hi), fun i m hi hm => (hb.cell (p := ⟨g, i * 9 + 1 + m, none⟩) hB).trans (h.c i m hi hm)⟩

end Go.Proofs.Ytjagijohfkffiab

/- The walk of without. -/
namespace Go.Proofs.Ytjagijohfkffiab
open Go.RowKit
set_option linter.unusedVariables false

theorem WyM.setLow {w : World} {T g2 n : Nat} {V : Nat → Value} {tl : Nat → List (Nat × Nat)} (h : WyM w T g2 n V tl) {b : Nat} (hb : b < g2) (o : Nat) (u : Value) : WyM (w.setCell ⟨b, o, none⟩ u) T g2 n V tl :=
  ⟨h.lt, by rw [World.cell?_setCell_other _ ⟨b, o, none⟩ ⟨T, 0, none⟩ _ (fun q => by have := congrArg Addr.block q; have h2 := h.lt; simp at this; omega)]; exact h.cell, own_set_other h.out hb o u, fun j hj => own_set_other (h.row j hj) (by have := h.lt; omega) o u, h.sep⟩

end Go.Proofs.Ytjagijohfkffiab

/- The walks of evades, and the Outlook's Class. -/
namespace Go.Proofs.Ytjagijohfkffiab
open Go.RowKit
set_option linter.unusedVariables false

end Go.Proofs.Ytjagijohfkffiab

/- The walk of the Outlook's Class. -/
namespace Go.Proofs.Ytjagijohfkffiab
open Go.RowKit
set_option linter.unusedVariables false

end Go.Proofs.Ytjagijohfkffiab
