import Derived.Test.YtjagijohfkffiabFOUM04
import Derived.Test.YtjagijohfkffiabFOUM06
import Derived.Test.YtjagijohfkffiabFOUM07
import Derived.Test.YtjagijohfkffiabFOUM14
import Derived.Test.YtjagijohfkffiabFOUM15
import Derived.Test.YtjagijohfkffiabFOUM16
import Derived.Test.YtjagijohfkffiabFOUM17
import Derived.RowKit
import Derived.Laws.ResultCell

/- Plain mathematics: how many states there are, at most, for every formula. -/
namespace Go.Proofs.Ytjagijohfkffiab
set_option linter.unusedVariables false

theorem relF_len : ∀ (ms : List Nd) (i : Nat), (relF i ms).length = ms.countP fun nd => tempB nd.op
  | [], _ => rfl
  | nd :: ms, i => by
    rw [relF, List.length_append, relF_len ms (i + 1), List.countP_cons]
    cases tempB nd.op <;> simp <;> omega

def nd_one (nd : Nd) : Bool := oneB nd.op
def nd_two (nd : Nd) : Bool := twoB nd.op
def nd_tmp (nd : Nd) : Bool := tempB nd.op
def nd_not (nd : Nd) : Bool := nd.op == 33
def cntN (p : Nd → Bool) (ms : List Nd) : Nat := ms.countP p
theorem cntN_snoc (p : Nd → Bool) (ms : List Nd) (nd : Nd) : cntN p (ms ++ [nd]) = cntN p ms + (if p nd = true then 1 else 0) := by unfold cntN; rw [List.countP_append, List.countP_singleton]
theorem cntN_app (p : Nd → Bool) (ms ls : List Nd) : cntN p (ms ++ ls) = cntN p ms + cntN p ls := by unfold cntN; rw [List.countP_append]
theorem filter_both {α : Type} (p : α → Bool) : ∀ l : List α, (l.filter p).length + (l.filter fun x => !p x).length = l.length
  | [] => rfl
  | x :: l => by
    have := filter_both p l
    cases h : p x <;> simp [h] <;> omega

theorem seg_counts {b : Nat} {ms : List Nd} (h : Seg b ms) : ms.length = 2 * cntN nd_two ms + 1 + cntN nd_one ms ∧ cntN nd_tmp ms + cntN nd_not ms ≤ cntN nd_one ms + cntN nd_two ms := by
  induction h using seg_ind with
  | leaf b op ho =>
    simp only [leafB, Bool.or_eq_true, beq_iff_eq] at ho
    rcases ho with (((h | h) | h) | h) | h <;> subst h <;> decide
  | one b op ms ho hs ih =>
    obtain ⟨h1, h2⟩ := ih
    rw [cntN_snoc, cntN_snoc, cntN_snoc, cntN_snoc, List.length_append, List.length_singleton]
    simp only [oneB, Bool.or_eq_true, beq_iff_eq] at ho
    rcases ho with ((h | h) | h) | h <;> subst h <;> simp [nd_one, nd_two, nd_tmp, nd_not, oneB, twoB, tempB] <;> omega
  | two b op ms ls ho h1 h2 ih1 ih2 =>
    obtain ⟨a1, a2⟩ := ih1
    obtain ⟨b1, b2⟩ := ih2
    rw [cntN_snoc, cntN_snoc, cntN_snoc, cntN_snoc, cntN_app, cntN_app, cntN_app, cntN_app, List.length_append, List.length_append, List.length_singleton]
    simp only [twoB, Bool.or_eq_true, beq_iff_eq] at ho
    rcases ho with ((h | h) | h) | h <;> subst h <;> simp [nd_one, nd_two, nd_tmp, nd_not, oneB, twoB, tempB] <;> omega

/-- Where no sign joins two, the nodes are a chain. -/
theorem seg_chain {b : Nat} {ms : List Nd} (h : Seg b ms) : cntN nd_two ms = 0 → cntN nd_not ms = 0 → ∀ i nd, ms[i]? = some nd → (i = 0 ∧ leafB nd.op = true) ∨ (0 < i ∧ oneB nd.op = true ∧ nd.op ≠ 33 ∧ nd.l = b + i - 1 ∧ nd.r = 0) := by
  induction h using seg_ind with
  | leaf b op ho =>
    intro _ _ i nd hi
    cases i with
    | zero => simp at hi; subst hi; exact Or.inl ⟨rfl, ho⟩
    | succ i => simp at hi
  | one b op ms ho hs ih =>
    intro h0 h1 i nd hi
    have hp := seg_pos hs
    rw [cntN_snoc] at h0 h1
    by_cases e : i < ms.length
    · rw [List.getElem?_append_left e] at hi
      exact ih (by omega) (by omega) i nd hi
    · rw [List.getElem?_append_right (by omega)] at hi
      have e2 : i = ms.length := by
        have := (List.getElem?_eq_some_iff.1 hi).1
        simp at this; omega
      subst e2
      simp at hi
      subst hi
      refine Or.inr ⟨hp, ho, fun e => ?_, rfl, rfl⟩
      dsimp only at e
      rw [e] at h1
      simp [nd_not] at h1
  | two b op ms ls ho h1 h2 ih1 ih2 =>
    intro h0
    rw [cntN_snoc] at h0
    simp [nd_two, ho] at h0

/-- The chain but for its last node. -/
theorem chain_seg : ∀ (ms : List Nd), (∀ i nd, ms[i]? = some nd → (i = 0 ∧ leafB nd.op = true ∧ nd.l = 0 ∧ nd.r = 0) ∨ (0 < i ∧ oneB nd.op = true ∧ nd.l = i - 1 ∧ nd.r = 0)) → 0 < ms.length → Seg 0 ms := by
  intro ms
  generalize hn : ms.length = n
  induction n generalizing ms with
  | zero => intro _ h; omega
  | succ n ih =>
    intro h _
    obtain ⟨ms', nd, rfl⟩ : ∃ ms' nd, ms = ms' ++ [nd] := ⟨ms.dropLast, ms.getLast (by intro e; rw [e] at hn; simp at hn), (List.dropLast_concat_getLast _).symm⟩
    rw [List.length_append, List.length_singleton] at hn
    have hl : ms'.length = n := by omega
    have hlast := h n nd (by rw [List.getElem?_append_right (by omega), hl]; simp)
    by_cases e : n = 0
    · subst e
      have : ms' = [] := List.eq_nil_of_length_eq_zero hl
      subst this
      rcases hlast with ⟨_, h1, h2, h3⟩ | ⟨h1, _⟩
      · obtain ⟨op, l, r⟩ := nd
        dsimp only at h1 h2 h3
        subst h2
        subst h3
        exact Seg.leaf 0 op h1
      · omega
    · have hs := ih ms' hl (fun i m hi => h i m (by rw [List.getElem?_append_left (List.getElem?_eq_some_iff.1 hi).1]; exact hi)) (by omega)
      rcases hlast with ⟨h1, _⟩ | ⟨_, h1, h2, h3⟩
      · omega
      · obtain ⟨op, l, r⟩ := nd
        dsimp only at h1 h2 h3
        subst h2
        subst h3
        have := Seg.one 0 op ms' h1 hs
        rwa [hl, Nat.zero_add] at this

theorem good_take {ns : List Nd} (hg : Good ns) {m : Nat} (h0 : 0 < m) (hm : m ≤ ns.length) : Good (ns.take m) := by
  have := hg.le
  refine ⟨by rw [List.length_take]; omega, by rw [List.length_take]; omega, fun i nd hi => ?_⟩
  have hl := (List.getElem?_eq_some_iff.1 hi).1
  rw [List.length_take] at hl
  rw [List.getElem?_take_of_lt (by omega)] at hi
  exact hg.wf i nd hi

/-- The lower bits are those of the part. -/
theorem back_take {ns : List Nd} (hg : Good ns) {m : Nat} (h0 : 0 < m) (hm : m ≤ ns.length) (N : Nat) : ∀ u, EqOn m (tb (back ns u N)) (tb (back (ns.take m) u N))
  | [] => EqOn.refl _ _
  | a :: u => by
    have hl : (ns.take m).length = m := by rw [List.length_take]; omega
    have h1 := back_take hg h0 hm N u
    have hst : Step (ns.take m) a (tb (bef ns a (back ns u N))) (tb (back ns u N)) := fun k nd hk => by
      have hkl := (List.getElem?_eq_some_iff.1 hk).1
      rw [List.getElem?_take_of_lt (by omega)] at hk
      exact bef_step hg a _ k nd hk
    have := bef_eqOn (good_take hg h0 hm) hst (N := back (ns.take m) u N) (by rw [hl]; exact h1.symm)
    rw [hl] at this
    exact this.symm

def orS (ns : List Nd) (σ : Nat → Bool) : List Nat → Nat → Bool
  | [], _ => false
  | a :: u, b => hOf ns σ (a :: u) b || orS ns σ u b
def andS (ns : List Nd) (σ : Nat → Bool) : List Nat → Nat → Bool
  | [], _ => true
  | a :: u, b => hOf ns σ (a :: u) b && andS ns σ u b
theorem orS_rise {ns : List Nd} (hg : Good ns) {σ : Nat → Bool} (hs : Signs σ ns) (ht : σ (ns.length - 1) = true) (h6 : (relF 0 ns).length ≤ 6) : ∀ u, Rise 6 (orS ns σ u)
  | [] => fun a b _ _ _ h => by simp [orS] at h
  | a :: u => fun x y hx hy hsub h => by
    rw [orS, Bool.or_eq_true] at h ⊢
    exact h.imp (hOf_rise hg hs ht h6 (by simp) x y hx hy hsub) (orS_rise hg hs ht h6 u x y hx hy hsub)
theorem andS_rise {ns : List Nd} (hg : Good ns) {σ : Nat → Bool} (hs : Signs σ ns) (ht : σ (ns.length - 1) = true) (h6 : (relF 0 ns).length ≤ 6) : ∀ u, Rise 6 (andS ns σ u)
  | [] => fun a b _ _ _ h => rfl
  | a :: u => fun x y hx hy hsub h => by
    rw [andS, Bool.and_eq_true] at h ⊢
    exact ⟨hOf_rise hg hs ht h6 (by simp) x y hx hy hsub h.1, andS_rise hg hs ht h6 u x y hx hy hsub h.2⟩

/-- The same by some rising function of six bools for each word. -/
theorem few_by {ns : List Nd} (hg : Good ns) {liv : Nat → Bool} (hl : LivP ns (calmsTo ns ns.length) liv) (us : List (List Nat)) (hu : ∀ u ∈ us, ∀ x ∈ u, x < 8)
    (hd : (us.map fun u => gv (runG ns liv (begB ns liv) u)).Nodup) (F : List Nat → Nat → Bool) (hF : ∀ u ∈ us, Rise 6 (F u)) (P : Nat → Nat) (hP : ∀ N, P N < 2 ^ 6) (C : Nat → Bool → Bool)
    (hC : ∀ u ∈ us, ∀ N, (back ns u N).testBit (ns.length - 1) = C N (F u (P N))) : us.length ≤ 796594176 := by
  have key : (us.map fun u => tab 6 (F u)).Nodup := by
    rw [List.nodup_iff_pairwise_ne, List.pairwise_map] at hd ⊢
    refine List.Pairwise.imp_of_mem ?_ hd
    intro u v hu1 hv1 hne e
    refine hne (gv_congr fun N hN => ?_)
    rw [Bool.eq_iff_iff, runG_iff hg hl u (hu u hu1), runG_iff hg hl v (hu v hv1), hC u hu1, hC v hv1, tab_inj e (hP N)]
  have := nodup_sub _ m6 key (fun x hx => by
    obtain ⟨u, hu1, rfl⟩ := List.mem_map.1 hx
    exact mem_m6 (hF u hu1))
  rw [m6_len] at this
  simpa using this

theorem few_two {ns : List Nd} (hg : Good ns) (ht : Seg 0 ns) {liv : Nat → Bool} (hl : LivP ns (calmsTo ns ns.length) liv) (us : List (List Nat)) (hu : ∀ u ∈ us, 2 ≤ u.length ∧ ∀ x ∈ u, x < 8)
    (hd : (us.map fun u => gv (runG ns liv (begB ns liv) u)).Nodup) : us.length ≤ 796594176 := by
  have h8 := hg.le
  by_cases h6 : (relF 0 ns).length ≤ 6
  · exact few_six hg ht h6 hl us (fun u h => ⟨fun e => by have := (hu u h).1; rw [e] at this; simp at this, (hu u h).2⟩) hd
  · obtain ⟨c1, c2⟩ := seg_counts ht
    rw [relF_len, show ns.countP (fun nd => tempB nd.op) = cntN nd_tmp ns from rfl] at h6
    have n2 : cntN nd_two ns = 0 := by omega
    have n3 : cntN nd_not ns = 0 := by omega
    have hlen : ns.length = 8 := by omega
    have hch := seg_chain ht n2 n3
    have wf := hg.wf
    have hg7 := good_take hg (m := 7) (by omega) (by omega)
    have l7 : (ns.take 7).length = 7 := by rw [List.length_take]; omega
    have s7 : Seg 0 (ns.take 7) := chain_seg _ (fun i nd hi => by
      have hil := (List.getElem?_eq_some_iff.1 hi).1
      rw [List.getElem?_take_of_lt (by omega)] at hi
      rcases hch i nd hi with ⟨h1, h2⟩ | ⟨h1, h2, _, h3, h4⟩
      · rcases wf i nd hi with ⟨_, a, b⟩ | ⟨a, b, _⟩ | ⟨a, b, _⟩
        · exact Or.inl ⟨h1, h2, a, b⟩
        · omega
        · omega
      · exact Or.inr ⟨h1, h2, by omega, h4⟩) (by omega)
    have h67 : (relF 0 (ns.take 7)).length ≤ 6 := by
      obtain ⟨d1, d2⟩ := seg_counts s7
      rw [relF_len, show (ns.take 7).countP (fun nd => tempB nd.op) = cntN nd_tmp (ns.take 7) from rfl]
      omega
    obtain ⟨σ, hr, hs0⟩ := seg_sign s7 true
    have hs : Signs σ (ns.take 7) := fun i nd hi => by have := hs0 i nd hi; rwa [Nat.zero_add] at this
    rw [Nat.zero_add] at hr
    obtain ⟨nd, hn⟩ : ∃ nd, ns[7]? = some nd := ⟨ns[7], List.getElem?_eq_getElem (by omega)⟩
    have hP : ∀ N, pj (ns.take 7) σ N < 2 ^ 6 := fun N => cdTo_pow _ (by omega)
    have b6 : ∀ u N, u ≠ [] → (back ns u N).testBit 6 = hOf (ns.take 7) σ u (pj (ns.take 7) σ N) := fun u N hne => by
      rw [hOf_pj hg7 hs h67 hne, l7]
      exact back_take hg (m := 7) (by omega) (by omega) N u 6 (by omega)
    rcases hch 7 nd hn with ⟨h1, _⟩ | ⟨_, h1, h2, h3, _⟩
    · omega
    · have hstep : ∀ a u N, (back ns (a :: u) N).testBit 7 = lawB nd.op a ((back ns (a :: u) N).testBit 6) ((back ns (a :: u) N).testBit nd.r) ((back ns u N).testBit 7) ((back ns u N).testBit 6) := fun a u N => by
        have := bef_step hg a (back ns u N) 7 nd hn
        simp only [tb] at this
        rw [show nd.l = 6 by omega] at this
        exact this
      simp only [oneB, Bool.or_eq_true, beq_iff_eq] at h1
      rcases h1 with ((h1 | h1) | h1) | h1
      · exact absurd h1 h2
      · refine few_by hg hl us (fun u h => (hu u h).2) hd (fun u => hOf (ns.take 7) σ u.tail) (fun u h => ?_) (pj (ns.take 7) σ) hP (fun _ b => b) (fun u h N => ?_)
        · obtain ⟨q1, _⟩ := hu u h
          refine hOf_rise hg7 hs hr h67 ?_
          cases u with
          | nil => simp at q1
          | cons a u => cases u with
            | nil => simp at q1
            | cons b u => simp
        · obtain ⟨q1, _⟩ := hu u h
          cases u with
          | nil => simp at q1
          | cons a u =>
            rw [hlen]
            show (back ns (a :: u) N).testBit 7 = _
            rw [hstep]
            simp only [lawB, h1]
            simp only [List.tail_cons]
            exact b6 u N (by intro e; rw [e] at q1; simp at q1)
      · have root : ∀ u N, (back ns u N).testBit 7 = (orS (ns.take 7) σ u (pj (ns.take 7) σ N) || N.testBit 7) := by
          intro u N
          induction u with
          | nil => simp [orS, back]
          | cons a u ih =>
            rw [hstep]
            simp only [lawB, h1]
            rw [orS, ← b6 (a :: u) N (by simp), Bool.or_assoc, ← ih]
            simp
        refine few_by hg hl us (fun u h => (hu u h).2) hd (orS (ns.take 7) σ) (fun u _ => orS_rise hg7 hs hr h67 u) (pj (ns.take 7) σ) hP (fun N b => b || N.testBit 7) (fun u h N => ?_)
        rw [hlen]
        exact root u N
      · have root : ∀ u N, (back ns u N).testBit 7 = (andS (ns.take 7) σ u (pj (ns.take 7) σ N) && N.testBit 7) := by
          intro u N
          induction u with
          | nil => simp [andS, back]
          | cons a u ih =>
            rw [hstep]
            simp only [lawB, h1]
            rw [andS, ← b6 (a :: u) N (by simp), Bool.and_assoc, ← ih]
            simp
        refine few_by hg hl us (fun u h => (hu u h).2) hd (andS (ns.take 7) σ) (fun u _ => andS_rise hg7 hs hr h67 u) (pj (ns.take 7) σ) hP (fun N b => b && N.testBit 7) (fun u h N => ?_)
        rw [hlen]
        exact root u N

/-- Words that lead to unlike groups are few. -/
theorem few {ns : List Nd} (hg : Good ns) (ht : Seg 0 ns) {liv : Nat → Bool} (hl : LivP ns (calmsTo ns ns.length) liv) (us : List (List Nat)) (hu : ∀ u ∈ us, ∀ x ∈ u, x < 8)
    (hd : (us.map fun u => gv (runG ns liv (begB ns liv) u)).Nodup) : us.length ≤ 796594185 := by
  have hnd : us.Nodup := by
    rw [List.nodup_iff_pairwise_ne, List.pairwise_map] at hd
    rw [List.nodup_iff_pairwise_ne]
    exact hd.imp fun h e => h (by rw [e])
  have h1 := few_two hg ht hl (us.filter fun u => decide (2 ≤ u.length)) (fun u h => by
    rw [List.mem_filter] at h
    exact ⟨by simpa using h.2, hu u h.1⟩) (List.Nodup.sublist (List.Sublist.map _ List.filter_sublist) hd)
  have h2 : (us.filter fun u => !decide (2 ≤ u.length)).length ≤ 9 := by
    have := nodup_sub (us.filter fun u => !decide (2 ≤ u.length)) ([] :: (List.range 8).map fun x => [x]) (hnd.sublist List.filter_sublist) (fun u h => by
      rw [List.mem_filter] at h
      obtain ⟨h3, h4⟩ := h
      cases u with
      | nil => simp
      | cons a u => cases u with
        | nil =>
          have := hu [a] h3 a (by simp)
          simp [this]
        | cons b u => simp at h4)
    simpa using this
  have h3 := filter_both (fun u : List Nat => decide (2 ≤ u.length)) us
  omega

end Go.Proofs.Ytjagijohfkffiab

/- Plain mathematics: machines that tell the same, have no state too many and number their states as they are met are one. -/
namespace Go.Proofs.Ytjagijohfkffiab

/-- How many states have been met behind p looks. -/
def met (nx : Nat → Nat → Nat) : Nat → Nat
  | 0 => 1
  | p + 1 => max (met nx p) (nx (p / 8) (p % 8) + 1)

end Go.Proofs.Ytjagijohfkffiab

/- Plain mathematics: the states as they are met. -/
namespace Go.Proofs.Ytjagijohfkffiab
set_option linter.unusedVariables false

theorem getD_snoc_lt {xs : List Nat} {x p : Nat} (h : p < xs.length) : (xs ++ [x]).getD p 0 = xs.getD p 0 := by simp [List.getD, List.getElem?_append_left h]
theorem getD_snoc_eq (xs : List Nat) (x : Nat) : (xs ++ [x]).getD xs.length 0 = x := by simp [List.getD]
section
variable (ns : List Nd) (liv beg : Nat → Bool)

end

variable {ns : List Nd} {liv beg : Nat → Bool} {us : List (List Nat)} {xs : List Nat}

end Go.Proofs.Ytjagijohfkffiab

/- The walk of States. -/
namespace Go.Proofs.Ytjagijohfkffiab
open Go.RowKit
set_option linter.unusedVariables false

theorem GrpAt.num {w w' : World} {T b o : Nat} {row : Option Nat} {g : Nat → Bool} (h : GrpAt w b o g) (n : NumF w w' T row) (h1 : b ≠ T) (h2 : row ≠ some b) : GrpAt w' b o g :=
  ⟨fun j hj => (n.cell (p := ⟨b, o + j, none⟩) h.lt h1 (fun e => h2 e.symm)).trans (h.c j hj), fun j hj => (n.frozen (p := ⟨b, o + j, none⟩) h.lt h1 (fun e => h2 e.symm)).trans (h.f j hj)⟩
theorem OutM.num {w w' : World} {T P : Nat} {row : Option Nat} {ns : List Nd} {liv beg : Nat → Bool} (h : OutM w P ns liv beg) (f : NumF w w' T row) (h1 : P ≠ T) (h2 : row ≠ some P) : OutM w' P ns liv beg :=
  ⟨fun x N hx hN => (f.cell (p := ⟨P, x * 256 + N, none⟩) h.lt h1 (fun e => h2 e.symm)).trans (h.bef x N hx hN), h.liv.num f h1 h2, h.beg.num f h1 h2⟩

/-- A state that is being made, in memory: nine cells. -/
structure NineM (w : World) (b : Nat) (o : Nat) (xs : List Nat) : Prop where
  c0 : w.cell? ⟨b, 0, none⟩ = some (.int .i64 (o : Nat))
  c : ∀ m, m < 8 → w.cell? ⟨b, 1 + m, none⟩ = some (.int .i64 (xs.getD m 0 : Nat))
  f : ∀ m, m < 9 → w.frozen? ⟨b, m, none⟩ = false
theorem NineM.lt {w : World} {b o : Nat} {xs : List Nat} (h : NineM w b o xs) : b < w.heap.size := World.block_lt_of_cell? w ⟨b, 0, none⟩ h.c0
theorem NineM.below {w w' : World} {b o : Nat} {xs : List Nat} (h : NineM w b o xs) (hb : Below w.heap.size w w') : NineM w' b o xs :=
  ⟨(hb.cell (p := ⟨b, 0, none⟩) h.lt).trans h.c0, fun m hm => (hb.cell (p := ⟨b, 1 + m, none⟩) h.lt).trans (h.c m hm), fun m hm => (hb.frozen (p := ⟨b, m, none⟩) h.lt).trans (h.f m hm)⟩
theorem NineM.num {w w' : World} {T b o : Nat} {row : Option Nat} {xs : List Nat} (h : NineM w b o xs) (n : NumF w w' T row) (h1 : b ≠ T) (h2 : row ≠ some b) : NineM w' b o xs :=
  ⟨(n.cell (p := ⟨b, 0, none⟩) h.lt h1 (fun e => h2 e.symm)).trans h.c0, fun m hm => (n.cell (p := ⟨b, 1 + m, none⟩) h.lt h1 (fun e => h2 e.symm)).trans (h.c m hm), fun m hm => (n.frozen (p := ⟨b, m, none⟩) h.lt h1 (fun e => h2 e.symm)).trans (h.f m hm)⟩
theorem NineM.set {w : World} {b o : Nat} {xs : List Nat} (h : NineM w b o xs) {j : Nat} (hl : xs.length < 8) : NineM (w.setCell ⟨b, 1 + xs.length, none⟩ (.int .i64 (j : Nat))) b o (xs ++ [j]) := by
  refine ⟨?_, fun m hm => ?_, fun m hm => by rw [World.frozen?_setCell]; exact h.f m hm⟩
  · rw [World.cell?_setCell_other _ ⟨b, 1 + xs.length, none⟩ ⟨b, 0, none⟩ _ (fun q => by have := congrArg Addr.off q; simp at this)]; exact h.c0
  · by_cases e : m = xs.length
    · subst e
      rw [World.cell?_setCell_same _ _ _ (h.c _ hm), getD_snoc_eq]
    · rw [World.cell?_setCell_other _ ⟨b, 1 + xs.length, none⟩ ⟨b, 1 + m, none⟩ _ (fun q => e (by have := congrArg Addr.off q; simp at this; omega)), h.c m hm]
      by_cases h2 : m < xs.length
      · rw [getD_snoc_lt h2]
      · have : (xs ++ [j]).getD m 0 = 0 := by simp [List.getD, List.getElem?_eq_none (show (xs ++ [j]).length ≤ m by simp; omega)]
        rw [this]
        simp [List.getD, List.getElem?_eq_none (show xs.length ≤ m by omega)]
theorem NineM.other {w : World} {b o : Nat} {xs : List Nat} (h : NineM w b o xs) (p : Addr) (v : Value) (hp : p.block ≠ b) : NineM (w.setCell p v) b o xs :=
  ⟨by rw [World.cell?_setCell_other _ p ⟨b, 0, none⟩ _ (fun q => hp (congrArg Addr.block q))]; exact h.c0, fun m hm => by rw [World.cell?_setCell_other _ p ⟨b, 1 + m, none⟩ _ (fun q => hp (congrArg Addr.block q))]; exact h.c m hm, fun m hm => by rw [World.frozen?_setCell]; exact h.f m hm⟩

theorem ExM.set {w : World} {B T : Nat} {v : Value} {gs : List (Nat → Bool)} (h : ExM w B T v gs) (p : Addr) (u : Value) (h1 : p.block ≠ T) (h2 : v.ownBlock ≠ some p.block) : ExM (w.setCell p u) B T v gs :=
  ⟨by rw [World.cell?_setCell_other _ p ⟨T, 0, none⟩ _ (fun q => h1 (congrArg Addr.block q))]; exact h.c, by rw [World.frozen?_setCell]; exact h.f,
    h.own.kept (row := some p.block) ⟨rfl, rfl, rfl, by rw [World.size_setCell]; exact Nat.le_refl _, fun q hq hne => Below.heap_setCell _ _ _ _ (fun e => hne (by rw [e]))⟩ (Or.inr h2), h.ne⟩
theorem ExM.grown {w w' : World} {B T : Nat} {v : Value} {gs : List (Nat → Bool)} {row : Option Nat} (h : ExM w B T v gs) (hg : w.grownBy w' row) (h1 : row ≠ some T) (h2 : v.ownBlock = none ∨ v.ownBlock ≠ row) : ExM w' B T v gs :=
  ⟨hg.cell h.c (fun e => h1 e.symm), (World.frozen?_of_block (a := ⟨T, 0, none⟩) (hg.block T h.lt (fun e => h1 e.symm))).trans h.f, h.own.kept hg h2, h.ne⟩

end Go.Proofs.Ytjagijohfkffiab

/- The walk of States. -/
namespace Go.Proofs.Ytjagijohfkffiab
open Go.RowKit
set_option linter.unusedVariables false

end Go.Proofs.Ytjagijohfkffiab

/- The walks of tells, without. -/
namespace Go.Proofs.Ytjagijohfkffiab
open Go.RowKit
set_option linter.unusedVariables false

/-- States that are read. -/
structure StR (w : World) (g n : Nat) (out : Nat → Nat) (nx : Nat → Nat → Nat) : Prop where
  lt : g < w.heap.size
  c0 : ∀ i, i < n → w.cell? ⟨g, i * 9, none⟩ = some (.int .i64 (out i : Nat))
  c : ∀ i m, i < n → m < 8 → w.cell? ⟨g, i * 9 + 1 + m, none⟩ = some (.int .i64 (nx i m : Nat))
theorem StR.below {B : Nat} {w w' : World} {g n : Nat} {out : Nat → Nat} {nx : Nat → Nat → Nat} (h : StR w g n out nx) (hb : Below B w w') (hB : g < B) : StR w' g n out nx :=
  ⟨Nat.lt_of_lt_of_le h.lt hb.size, fun i hi => (hb.cell (p := ⟨g, i * 9, none⟩) hB).trans (h.c0 i hi), fun i m hi hm => (hb.cell (p := ⟨g, i * 9 + 1 + m, none⟩) hB).trans (h.c i m hi hm)⟩

end Go.Proofs.Ytjagijohfkffiab

/- The walk of without. -/
namespace Go.Proofs.Ytjagijohfkffiab
open Go.RowKit
set_option linter.unusedVariables false

theorem WyM.setLow {w : World} {T g2 n : Nat} {V : Nat → Value} {tl : Nat → List (Nat × Nat)} (h : WyM w T g2 n V tl) {b : Nat} (hb : b < g2) (o : Nat) (u : Value) : WyM (w.setCell ⟨b, o, none⟩ u) T g2 n V tl :=
  ⟨h.lt, by rw [World.cell?_setCell_other _ ⟨b, o, none⟩ ⟨T, 0, none⟩ _ (fun q => by have := congrArg Addr.block q; have h2 := h.lt; simp at this; omega)]; exact h.cell, own_set_other h.out hb o u, fun j hj => own_set_other (h.row j hj) (by have := h.lt; omega) o u, h.sep⟩

end Go.Proofs.Ytjagijohfkffiab

/- The walks of evades, and the Outlook's Class. -/
namespace Go.Proofs.Ytjagijohfkffiab
open Go.RowKit
set_option linter.unusedVariables false

end Go.Proofs.Ytjagijohfkffiab

/- The walk of the Outlook's Class. -/
namespace Go.Proofs.Ytjagijohfkffiab
open Go.RowKit
set_option linter.unusedVariables false

end Go.Proofs.Ytjagijohfkffiab

/- What Judge answers. -/
namespace Go.Proofs.Ytjagijohfkffiab
open Go.RowKit
set_option linter.unusedVariables false

end Go.Proofs.Ytjagijohfkffiab

/- The walk of the program's Judge. -/
namespace Go.Proofs.Ytjagijohfkffiab
open Go.RowKit
set_option linter.unusedVariables false

theorem ndM_of {w : World} {B gn m ncap : Nat} {ns : List Nd} (h : w.ownsRow B 124 3 (.slice (some ⟨gn, 0, none⟩) m ncap) m (flat ns)) (hl : ns.length = m) : NdM w gn ns :=
  ⟨(h.lt _ rfl).2, fun i hi => (h.cellAt (i * 3) (by omega)).trans (flat_get ns i (by omega)).1, fun i hi => (h.cellAt (i * 3 + 1) (by omega)).trans (flat_get ns i (by omega)).2.1, fun i hi => (h.cellAt (i * 3 + 2) (by omega)).trans (flat_get ns i (by omega)).2.2⟩

section
variable (s : ByteArray) (a1 : Option Addr) (l1 c1 : Nat) (z1 : List Int) (w : World)

end

end Go.Proofs.Ytjagijohfkffiab

/- Plain mathematics: the endless word of a stem and a loop. -/
namespace Go.Proofs.Ytjagijohfkffiab

/-- The letter at place t of the endless word. -/
def wordAt (A B : List Nat) (t : Nat) : Nat := if t < A.length then A.getD t 0 else B.getD ((t - A.length) % B.length) 0

def posAt (a b t : Nat) : Nat := if t < a then t else a + (t - a) % b

theorem mod_step {q b : Nat} (hb : 0 < b) : (q + 1) % b = if q % b + 1 < b then q % b + 1 else 0 := by
  have h := Nat.mod_lt q hb
  rw [Nat.add_mod]
  by_cases h1 : b = 1
  · subst h1; simp [Nat.mod_one]
  · rw [Nat.mod_eq_of_lt (show 1 < b by omega)]
    split
    · exact Nat.mod_eq_of_lt ‹_›
    · rw [show q % b + 1 = b by omega]; exact Nat.mod_self b

theorem it_pos {a b : Nat} (hb : 0 < b) (t : Nat) : it (lnx (a + b) a) t 0 = posAt a b t := by
  induction t with
  | zero =>
    simp only [it, posAt]
    split
    · rfl
    · rename_i h
      have : a = 0 := by omega
      subst this
      simp
  | succ t ih =>
    rw [it_succ, ih]
    unfold posAt lnx
    by_cases h1 : t + 1 < a
    · rw [if_pos h1, if_pos (show t < a by omega), if_pos (by omega)]
    · rw [if_neg h1]
      by_cases h2 : t < a
      · rw [if_pos h2]
        have : t + 1 - a = 0 := by omega
        rw [this]
        split <;> simp <;> omega
      · rw [if_neg h2, show t + 1 - a = (t - a) + 1 by omega, mod_step hb]
        have := Nat.mod_lt (t - a) hb
        by_cases h3 : (t - a) % b + 1 < b
        · rw [if_pos h3, if_pos (by omega)]; omega
        · rw [if_neg h3, if_neg (by omega)]; rfl

theorem ltOf_pos {A B : List Nat} (hb : 0 < B.length) (t : Nat) : ltOf (A ++ B) (posAt A.length B.length t) = wordAt A B t := by
  unfold ltOf posAt wordAt
  have := Nat.mod_lt (t - A.length) hb
  by_cases h : t < A.length
  · rw [if_pos h, if_pos h]; simp [List.getD, List.getElem?_append_left h]
  · rw [if_neg h, if_neg h, List.getD, List.getD, List.getElem?_append_right (by omega), Nat.add_sub_cancel_left]

/-- At a time, and at the place where one is then. -/
theorem sem_time {A B : List Nat} (hb : 0 < B.length) (ns : List Nd) (k t : Nat) : sem (fun i => i + 1) (wordAt A B) ns k t ↔ sem (lnx (A.length + B.length) A.length) (ltOf (A ++ B)) ns k (posAt A.length B.length t) := by
  have h := sem_map (f := fun t => it (lnx (A.length + B.length) A.length) t 0) (nx1 := fun i => i + 1) (lt1 := wordAt A B) (nx2 := lnx (A.length + B.length) A.length) (lt2 := ltOf (A ++ B))
    (fun i => it_succ _ _ _) (fun i => by rw [it_pos hb, ltOf_pos hb]) ns k t
  rw [it_pos hb] at h
  exact h

/-- What Holds answers, by the document's own words. -/
theorem holdsB_inf {A B : List Nat} {ns : List Nd} (hg : Good ns) (hb : 0 < B.length) (hx : ∀ x ∈ A ++ B, x < 8) : holdsB A.length ns (A ++ B) = true ↔ sem (fun i => i + 1) (wordAt A B) ns (ns.length - 1) 0 := by
  rw [holdsB_sem hg (by simp; omega) hx, sem_time hb, List.length_append]
  have : posAt A.length B.length 0 = 0 := by
    unfold posAt
    split
    · rfl
    · rename_i h
      have h0 : A.length = 0 := by omega
      rw [h0]; simp
  rw [this]

end Go.Proofs.Ytjagijohfkffiab

/- What Holds answers of letters. -/
namespace Go.Proofs.Ytjagijohfkffiab
open Go.RowKit
set_option linter.unusedVariables false

/-- What Holds answers of letters. -/
def hv (s : ByteArray) (xs ys : List Nat) : Bool := if (parseOf s).1 = 0 then holdsB xs.length (parseOf s).2 (xs ++ ys) else false

theorem joinErr_ok {xs ys : List Nat} (h1 : ∀ x ∈ xs, x < 8) (h2 : ∀ x ∈ ys, x < 8) (p : 0 < ys.length) (l1 : xs.length ≤ 40) (l2 : ys.length ≤ 40) : joinErr (intsOf xs) (intsOf ys) = 0 := by
  unfold joinErr
  rw [intsOf_len, intsOf_len, if_neg (by omega), if_neg (by omega), if_pos ⟨allL_ints h1, allL_ints h2⟩]
theorem hold_val {s : ByteArray} {xs ys : List Nat} (h : joinErr (intsOf xs) (intsOf ys) = 0) : holdVal s (intsOf xs) (intsOf ys) = hv s xs ys ∧ holdErr s (intsOf xs) (intsOf ys) = (parseOf s).1 := by
  have e : holdErr s (intsOf xs) (intsOf ys) = (parseOf s).1 := by
    unfold holdErr
    split
    · rename_i h0; rw [h, h0]
    · rfl
  refine ⟨?_, e⟩
  unfold holdVal hv
  rw [e, intsOf_len, ← intsOf_app, natOf_ints]

theorem holdsW (s : ByteArray) (hm : s.size ≤ maxLen) (a1 a2 : Option Addr) (l1 c1 l2 c2 : Nat) (xs ys : List Nat) (w : World) (h1 : Ints w a1 l1 c1 (intsOf xs)) (h2 : Ints w a2 l2 c2 (intsOf ys))
    (x8 : ∀ x ∈ xs, x < 8) (y8 : ∀ x ∈ ys, x < 8) (p : 0 < ys.length) (q1 : xs.length ≤ 40) (q2 : ys.length ≤ 40) :
    Calls Try.prog 19 #[.string s, .slice a1 l1 c1, .slice a2 l2 c2] w fun e w' => e = .returned (.tuple #[.bool (hv s xs ys), .int .i64 (parseOf s).1]) ∧ Below w.heap.size w w' := by
  have h := holds_any s a1 a2 l1 c1 l2 c2 (intsOf xs) (intsOf ys) w hm h1 h2
  obtain ⟨e1, e2⟩ := hold_val (s := s) (joinErr_ok x8 y8 p q1 q2)
  rw [e1, e2] at h
  exact h

theorem Ints.drew {w : World} {ao : Option Addr} {len cap : Nat} {zs : List Int} (h : Ints w ao len cap zs) : Ints w.drew ao len cap zs := ⟨h.hlen, h.hcap, h.hmax, h.hnil, h.hcell⟩

theorem below_undrew {B : Nat} {w w' : World} (h : Below B w.drew w') : Below B w w' := ⟨h.os, h.tape, h.output, h.size, h.block⟩

end Go.Proofs.Ytjagijohfkffiab

/- Settled: plain mathematics, judging, the walk. -/
namespace Go.Proofs.Ytjagijohfkffiab
open Go.RowKit
set_option linter.unusedVariables false

end Go.Proofs.Ytjagijohfkffiab

/- Plain mathematics: what evades means. -/
namespace Go.Proofs.Ytjagijohfkffiab
set_option linter.unusedVariables false

/-- The first k letters. -/
def pre (x : Nat → Nat) (k : Nat) : List Nat := (List.range k).map x
section
variable {ns : List Nd} {liv : Nat → Bool} {us : List (List Nat)} {xs : List Nat}

end

end Go.Proofs.Ytjagijohfkffiab

/- What Class tells; the walk of the program's Class. -/
namespace Go.Proofs.Ytjagijohfkffiab
open Go.RowKit
set_option linter.unusedVariables false

/-- A small row and a number are handed back. -/
theorem ret_cells_tmp {fn : Func} {p q b : Nat} {ty : TypeId} {d : TypeDesc} {cs : List Value} {v : Value} {a : Act} {w : World} {R : Ending → World → Prop} (h : fn.results = #[.cell p ty, .tmp q]) (hd : a.defers = []) (hp : a.tmps.getD p undef = .pointer (some ⟨b, 0, none⟩)) (hq : a.tmps.getD q undef = v)
    (hg : w.rangeAt b 0 cs) (hu : Try.prog.underlying ty = some d) (hr : d.isRow = true) (hs : (Try.prog.info? ty).map (·.size) = some cs.length) (hR : R (.returned (.tuple #[.agg cs.toArray, v])) w) : bodyPost Try.prog fn R .ret a w := by
  refine bodyPost_ret (v := .tuple #[.agg cs.toArray, v]) ?_ hd hR
  rw [results_cell_tmp h, hp, hq]
  simp only [asAddr, Sem.run_pure, Result.andThen_ok]
  rw [run_loadVar_mid w b 0 _ cs d hg hu hr hs]
  rfl

section
variable (s : ByteArray) (w : World)

end

end Go.Proofs.Ytjagijohfkffiab
