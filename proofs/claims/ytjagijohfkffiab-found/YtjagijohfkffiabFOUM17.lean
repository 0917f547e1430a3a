import Derived.Test.YtjagijohfkffiabFOUM07
import Derived.Test.YtjagijohfkffiabFOUM16

/- Plain mathematics: the nodes of a formula are a tree: signs, and how many wait. -/
namespace Go.Proofs.Ytjagijohfkffiab
set_option linter.unusedVariables false

/-- The nodes of one formula, the first of which has the number b; made in k steps. -/
def SegN : Nat → Nat → List Nd → Prop
  | 0, _, _ => False
  | k + 1, b, ns => (∃ op, leafB op = true ∧ ns = [⟨op, 0, 0⟩]) ∨ (∃ op ms, oneB op = true ∧ SegN k b ms ∧ ns = ms ++ [⟨op, b + ms.length - 1, 0⟩])
    ∨ (∃ op ms ls, twoB op = true ∧ SegN k b ms ∧ SegN k (b + ms.length) ls ∧ ns = ms ++ ls ++ [⟨op, b + ms.length - 1, b + ms.length + ls.length - 1⟩])
def Seg (b : Nat) (ms : List Nd) : Prop := ∃ k, SegN k b ms
theorem segN_more : ∀ (k b : Nat) (ms : List Nd), SegN k b ms → SegN (k + 1) b ms
  | 0, _, _, h => h.elim
  | k + 1, b, ms, h => by
    rcases h with h | ⟨op, m, h1, h2, h3⟩ | ⟨op, m, l, h1, h2, h3, h4⟩
    · exact Or.inl h
    · exact Or.inr (Or.inl ⟨op, m, h1, segN_more k b m h2, h3⟩)
    · exact Or.inr (Or.inr ⟨op, m, l, h1, segN_more k b m h2, segN_more k _ l h3, h4⟩)
theorem segN_le {k b : Nat} {ms : List Nd} (h : SegN k b ms) : ∀ d, SegN (k + d) b ms
  | 0 => h
  | d + 1 => segN_more _ _ _ (segN_le h d)
theorem Seg.leaf (b op : Nat) (h : leafB op = true) : Seg b [⟨op, 0, 0⟩] := ⟨1, Or.inl ⟨op, h, rfl⟩⟩
theorem Seg.one (b op : Nat) (ms : List Nd) (h : oneB op = true) (hs : Seg b ms) : Seg b (ms ++ [⟨op, b + ms.length - 1, 0⟩]) := by
  obtain ⟨k, hk⟩ := hs
  exact ⟨k + 1, Or.inr (Or.inl ⟨op, ms, h, hk, rfl⟩)⟩
theorem Seg.two (b op : Nat) (ms ls : List Nd) (h : twoB op = true) (h1 : Seg b ms) (h2 : Seg (b + ms.length) ls) : Seg b (ms ++ ls ++ [⟨op, b + ms.length - 1, b + ms.length + ls.length - 1⟩]) := by
  obtain ⟨k, hk⟩ := h1
  obtain ⟨j, hj⟩ := h2
  refine ⟨(k + j) + 1, Or.inr (Or.inr ⟨op, ms, ls, h, segN_le hk j, ?_, rfl⟩)⟩
  rw [Nat.add_comm]
  exact segN_le hj k
theorem seg_ind {motive : (b : Nat) → (ms : List Nd) → Seg b ms → Prop} (leaf : ∀ (b op : Nat) (h : leafB op = true), motive b [⟨op, 0, 0⟩] (Seg.leaf b op h))
    (one : ∀ (b op : Nat) (ms : List Nd) (h : oneB op = true) (hs : Seg b ms), motive b ms hs → motive b (ms ++ [⟨op, b + ms.length - 1, 0⟩]) (Seg.one b op ms h hs))
    (two : ∀ (b op : Nat) (ms ls : List Nd) (h : twoB op = true) (h1 : Seg b ms) (h2 : Seg (b + ms.length) ls), motive b ms h1 → motive (b + ms.length) ls h2 → motive b (ms ++ ls ++ [⟨op, b + ms.length - 1, b + ms.length + ls.length - 1⟩]) (Seg.two b op ms ls h h1 h2))
    {b : Nat} {ms : List Nd} (t : Seg b ms) : motive b ms t := by
  obtain ⟨k, hk⟩ := t
  induction k generalizing b ms with
  | zero => exact hk.elim
  | succ k ih =>
    have hk' := hk
    rcases hk' with ⟨op, h, rfl⟩ | ⟨op, m, h1, h2, rfl⟩ | ⟨op, m, l, h1, h2, h3, rfl⟩
    · exact leaf b op h
    · exact one b op m h1 ⟨k, h2⟩ (ih h2)
    · exact two b op m l h1 ⟨k, h2⟩ ⟨k, h3⟩ (ih h2) (ih h3)

theorem seg_pos {b : Nat} {ms : List Nd} (h : Seg b ms) : 0 < ms.length := by
  induction h using seg_ind <;> simp <;> omega

/-- Where the nodes below a node lie. -/
theorem seg_range {b : Nat} {ms : List Nd} (h : Seg b ms) : ∀ i nd, ms[i]? = some nd → leafB nd.op = true ∨ (oneB nd.op = true ∧ b ≤ nd.l ∧ nd.l < b + i) ∨ (twoB nd.op = true ∧ b ≤ nd.l ∧ nd.l < b + i ∧ b ≤ nd.r ∧ nd.r < b + i) := by
  induction h using seg_ind with
  | leaf b op ho =>
    intro i nd hi
    cases i with
    | zero => simp at hi; subst hi; exact Or.inl ho
    | succ i => simp at hi
  | one b op ms ho hs ih =>
    intro i nd hi
    have hp := seg_pos hs
    by_cases e : i < ms.length
    · rw [List.getElem?_append_left e] at hi; exact ih i nd hi
    · rw [List.getElem?_append_right (by omega)] at hi
      have e2 : i = ms.length := by
        have := (List.getElem?_eq_some_iff.1 hi).1
        simp at this; omega
      subst e2
      simp at hi
      subst hi
      exact Or.inr (Or.inl ⟨ho, by simp only; omega, by simp only; omega⟩)
  | two b op ms ls ho h1 h2 ih1 ih2 =>
    intro i nd hi
    have p1 := seg_pos h1
    have p2 := seg_pos h2
    by_cases e : i < ms.length + ls.length
    · rw [List.getElem?_append_left (by rw [List.length_append]; exact e)] at hi
      by_cases e1 : i < ms.length
      · rw [List.getElem?_append_left e1] at hi; exact ih1 i nd hi
      · rw [List.getElem?_append_right (by omega)] at hi
        rcases ih2 _ nd hi with h | ⟨h, h3, h4⟩ | ⟨h, h3, h4, h5, h6⟩
        · exact Or.inl h
        · exact Or.inr (Or.inl ⟨h, by omega, by omega⟩)
        · exact Or.inr (Or.inr ⟨h, by omega, by omega, by omega, by omega⟩)
    · rw [List.getElem?_append_right (by rw [List.length_append]; omega)] at hi
      have e2 : i = ms.length + ls.length := by
        have := (List.getElem?_eq_some_iff.1 hi).1
        simp at this; omega
      subst e2
      simp at hi
      subst hi
      exact Or.inr (Or.inr ⟨ho, by simp only; omega, by simp only; omega, by simp only; omega, by simp only; omega⟩)

/-- A sign for each node: turned by each '!'. -/
def SignAt (σ : Nat → Bool) (j : Nat) (nd : Nd) : Prop := (oneB nd.op = true → σ nd.l = (if nd.op = 33 then !σ j else σ j)) ∧ (twoB nd.op = true → σ nd.l = σ j ∧ σ nd.r = σ j)
theorem signAt_congr {σ τ : Nat → Bool} {j : Nat} {nd : Nd} (h : SignAt σ j nd) (hj : τ j = σ j) (hl : oneB nd.op = true ∨ twoB nd.op = true → τ nd.l = σ nd.l) (hr : twoB nd.op = true → τ nd.r = σ nd.r) : SignAt τ j nd :=
  ⟨fun ho => by rw [hl (Or.inl ho), hj]; exact h.1 ho, fun ho => by rw [hl (Or.inr ho), hr ho, hj]; exact h.2 ho⟩
theorem leaf_sign {σ : Nat → Bool} {j : Nat} {nd : Nd} (h : leafB nd.op = true) : SignAt σ j nd := by
  have h1 : oneB nd.op = false := by
    cases e : oneB nd.op with
    | false => rfl
    | true => rw [leaf_not_one e] at h; cases h
  have h2 : twoB nd.op = false := by
    simp only [leafB, Bool.or_eq_true, beq_iff_eq] at h
    rcases h with (((h | h) | h) | h) | h <;> rw [h] <;> decide
  exact ⟨fun h => (by rw [h1] at h; cases h), fun h => (by rw [h2] at h; cases h)⟩
theorem two_not_one {b : Nat} (h : twoB b = true) : oneB b = false := by
  simp only [twoB, Bool.or_eq_true, beq_iff_eq] at h
  rcases h with ((h | h) | h) | h <;> rw [h] <;> decide
theorem seg_sign {b : Nat} {ms : List Nd} (h : Seg b ms) : ∀ s : Bool, ∃ σ : Nat → Bool, σ (b + ms.length - 1) = s ∧ ∀ i nd, ms[i]? = some nd → SignAt σ (b + i) nd := by
  induction h using seg_ind with
  | leaf b op ho =>
    intro s
    refine ⟨fun _ => s, rfl, fun i nd hi => ?_⟩
    cases i with
    | zero => simp at hi; subst hi; exact leaf_sign ho
    | succ i => simp at hi
  | one b op ms ho hs ih =>
    intro s
    have hp := seg_pos hs
    obtain ⟨σ, h1, h2⟩ := ih (if op = 33 then !s else s)
    refine ⟨fun j => if j = b + ms.length then s else σ j, by simp, fun i nd hi => ?_⟩
    by_cases e : i < ms.length
    · rw [List.getElem?_append_left e] at hi
      refine signAt_congr (h2 i nd hi) (by rw [if_neg (by omega)]) (fun hh => ?_) (fun hh => ?_)
      · rw [if_neg]
        rcases seg_range hs i nd hi with h | ⟨h, h3, h4⟩ | ⟨h, h3, h4, h5, h6⟩
        · have l1 : oneB nd.op = false := by
            cases e : oneB nd.op with
            | false => rfl
            | true => rw [leaf_not_one e] at h; cases h
          have l2 := (leaf_sign (σ := fun _ => true) (j := 0) h)
          rcases hh with hh | hh
          · rw [l1] at hh; cases hh
          · have : twoB nd.op = false := by
              simp only [leafB, Bool.or_eq_true, beq_iff_eq] at h
              rcases h with (((h | h) | h) | h) | h <;> rw [h] <;> decide
            rw [this] at hh; cases hh
        · omega
        · omega
      · rw [if_neg]
        rcases seg_range hs i nd hi with h | ⟨h, h3, h4⟩ | ⟨h, h3, h4, h5, h6⟩
        · have : twoB nd.op = false := by
            simp only [leafB, Bool.or_eq_true, beq_iff_eq] at h
            rcases h with (((h | h) | h) | h) | h <;> rw [h] <;> decide
          rw [this] at hh; cases hh
        · rw [one_not_two h] at hh; cases hh
        · omega
    · rw [List.getElem?_append_right (by omega)] at hi
      have e2 : i = ms.length := by
        have := (List.getElem?_eq_some_iff.1 hi).1
        simp at this; omega
      subst e2
      simp at hi
      subst hi
      refine ⟨fun _ => ?_, fun hh => (by rw [one_not_two ho] at hh; cases hh)⟩
      dsimp only
      rw [if_neg (by omega), if_pos rfl, h1]
  | two b op ms ls ho h1 h2 ih1 ih2 =>
    intro s
    have p1 := seg_pos h1
    have p2 := seg_pos h2
    obtain ⟨σ1, a1, a2⟩ := ih1 s
    obtain ⟨σ2, b1, b2⟩ := ih2 s
    have notwo : ∀ {nd : Nd}, leafB nd.op = true → twoB nd.op = false := fun {nd} h => by
      simp only [leafB, Bool.or_eq_true, beq_iff_eq] at h
      rcases h with (((h | h) | h) | h) | h <;> rw [h] <;> decide
    have noone : ∀ {nd : Nd}, leafB nd.op = true → oneB nd.op = false := fun {nd} h => by
      simp only [leafB, Bool.or_eq_true, beq_iff_eq] at h
      rcases h with (((h | h) | h) | h) | h <;> rw [h] <;> decide
    refine ⟨fun j => if j < b + ms.length then σ1 j else if j < b + ms.length + ls.length then σ2 j else s, ?_, fun i nd hi => ?_⟩
    · simp only [List.length_append, List.length_singleton]
      rw [if_neg (by omega), if_neg (by omega)]
    · by_cases e : i < ms.length + ls.length
      · rw [List.getElem?_append_left (by rw [List.length_append]; exact e)] at hi
        by_cases e1 : i < ms.length
        · rw [List.getElem?_append_left e1] at hi
          have r := seg_range h1 i nd hi
          refine signAt_congr (a2 i nd hi) (by rw [if_pos (by omega)]) (fun hh => ?_) (fun hh => ?_)
          · rcases r with h | ⟨h, h3, h4⟩ | ⟨h, h3, h4, h5, h6⟩
            · rcases hh with hh | hh
              · rw [noone h] at hh; cases hh
              · rw [notwo h] at hh; cases hh
            · rw [if_pos (by omega)]
            · rw [if_pos (by omega)]
          · rcases r with h | ⟨h, h3, h4⟩ | ⟨h, h3, h4, h5, h6⟩
            · rw [notwo h] at hh; cases hh
            · rw [one_not_two h] at hh; cases hh
            · rw [if_pos (by omega)]
        · rw [List.getElem?_append_right (by omega)] at hi
          have r := seg_range h2 _ nd hi
          have key := b2 _ nd hi
          rw [show b + ms.length + (i - ms.length) = b + i by omega] at key
          refine signAt_congr key (by rw [if_neg (by omega), if_pos (by omega)]) (fun hh => ?_) (fun hh => ?_)
          · rcases r with h | ⟨h, h3, h4⟩ | ⟨h, h3, h4, h5, h6⟩
            · rcases hh with hh | hh
              · rw [noone h] at hh; cases hh
              · rw [notwo h] at hh; cases hh
            · rw [if_neg (by omega), if_pos (by omega)]
            · rw [if_neg (by omega), if_pos (by omega)]
          · rcases r with h | ⟨h, h3, h4⟩ | ⟨h, h3, h4, h5, h6⟩
            · rw [notwo h] at hh; cases hh
            · rw [one_not_two h] at hh; cases hh
            · rw [if_neg (by omega), if_pos (by omega)]
      · rw [List.getElem?_append_right (by rw [List.length_append]; omega)] at hi
        have e2 : i = ms.length + ls.length := by
          have := (List.getElem?_eq_some_iff.1 hi).1
          simp at this; omega
        subst e2
        simp at hi
        subst hi
        refine ⟨fun hh => (by rw [two_not_one ho] at hh; cases hh), fun _ => ?_⟩
        dsimp only
        constructor
        · rw [if_pos (show b + ms.length - 1 < b + ms.length by omega), a1, if_neg (show ¬ b + (ms.length + ls.length) < b + ms.length by omega), if_neg (show ¬ b + (ms.length + ls.length) < b + ms.length + ls.length by omega)]
        · rw [if_neg (show ¬ b + ms.length + ls.length - 1 < b + ms.length by omega), if_pos (show b + ms.length + ls.length - 1 < b + ms.length + ls.length by omega), b1, if_neg (show ¬ b + (ms.length + ls.length) < b + ms.length by omega), if_neg (show ¬ b + (ms.length + ls.length) < b + ms.length + ls.length by omega)]

end Go.Proofs.Ytjagijohfkffiab

/- Plain mathematics: how many rising functions of six bools there are, at most. -/
namespace Go.Proofs.Ytjagijohfkffiab
set_option linter.unusedVariables false

theorem nodup_sub {α : Type} [DecidableEq α] : ∀ (L M : List α), L.Nodup → (∀ x ∈ L, x ∈ M) → L.length ≤ M.length
  | [], M, _, _ => Nat.zero_le _
  | x :: L, M, hd, hs => by
    rw [List.nodup_cons] at hd
    have hx := hs x (List.mem_cons_self ..)
    have h1 := nodup_sub L (M.erase x) hd.2 (fun y hy => (List.mem_erase_of_ne (fun e => hd.1 (by subst e; exact hy))).2 (hs y (List.mem_cons_of_mem _ hy)))
    rw [List.length_erase_of_mem hx] at h1
    have : 0 < M.length := List.length_pos_of_mem hx
    simp; omega

/-- A function of n bools as the list of its values. -/
def tab (n : Nat) (f : Nat → Bool) : List Bool := (List.range (2 ^ n)).map f
theorem tab_len (n : Nat) (f : Nat → Bool) : (tab n f).length = 2 ^ n := by simp [tab]
theorem tab_succ (n : Nat) (f : Nat → Bool) : tab (n + 1) f = tab n f ++ tab n (fun b => f (2 ^ n + b)) := by
  unfold tab
  rw [show 2 ^ (n + 1) = 2 ^ n + 2 ^ n by omega, List.range_add, List.map_append, List.map_map]
  rfl
theorem tab_inj {n : Nat} {f g : Nat → Bool} (h : tab n f = tab n g) {b : Nat} (hb : b < 2 ^ n) : f b = g b := by
  have h1 : (tab n f)[b]? = some (f b) := by simp [tab, hb]
  have h2 : (tab n g)[b]? = some (g b) := by simp [tab, hb]
  rw [h, h2] at h1
  exact (Option.some.inj h1).symm

/-- The one holds where the other does. -/
def subB (a b : Nat) : Prop := ∀ i, a.testBit i = true → b.testBit i = true
def Rise (n : Nat) (f : Nat → Bool) : Prop := ∀ a b, a < 2 ^ n → b < 2 ^ n → subB a b → f a = true → f b = true

theorem rise_low {n : Nat} {f : Nat → Bool} (h : Rise (n + 1) f) : Rise n f := fun a b ha hb hs hf => h a b (by rw [Nat.pow_succ]; omega) (by rw [Nat.pow_succ]; omega) hs hf
theorem testBit_high {n b : Nat} (hb : b < 2 ^ n) (i : Nat) : (2 ^ n + b).testBit i = (if i = n then true else b.testBit i) := by
  by_cases e : i = n
  · subst e
    rw [if_pos rfl, Nat.testBit_two_pow_add_eq, Nat.testBit_lt_two_pow hb]
    rfl
  · rw [if_neg e]
    by_cases h : i < n
    · exact Nat.testBit_two_pow_add_gt h b
    · have h1 : 2 ^ n + b < 2 ^ i := by
        have : 2 ^ (n + 1) ≤ 2 ^ i := Nat.pow_le_pow_right (by omega) (by omega)
        rw [Nat.pow_succ] at this
        omega
      rw [Nat.testBit_lt_two_pow h1, Nat.testBit_lt_two_pow (Nat.lt_of_lt_of_le hb (Nat.pow_le_pow_right (by omega) (by omega)))]
theorem rise_high {n : Nat} {f : Nat → Bool} (h : Rise (n + 1) f) : Rise n (fun b => f (2 ^ n + b)) := fun a b ha hb hs hf =>
  h (2 ^ n + a) (2 ^ n + b) (by rw [Nat.pow_succ]; omega) (by rw [Nat.pow_succ]; omega) (fun i hi => by
    rw [testBit_high ha] at hi
    rw [testBit_high hb]
    split
    · rfl
    · rename_i e; rw [if_neg e] at hi; exact hs i hi) hf
theorem rise_pair {n : Nat} {f : Nat → Bool} (h : Rise (n + 1) f) : ∀ b, b < 2 ^ n → f b = true → f (2 ^ n + b) = true := fun b hb hf =>
  h b (2 ^ n + b) (by rw [Nat.pow_succ]; omega) (by rw [Nat.pow_succ]; omega) (fun i hi => by
    rw [testBit_high hb]
    split
    · rfl
    · exact hi) hf

/-- All lists of n bools. -/
def allB : Nat → List (List Bool)
  | 0 => [[]]
  | n + 1 => (allB n).flatMap fun l => [false :: l, true :: l]
theorem mem_allB : ∀ (l : List Bool), l ∈ allB l.length
  | [] => by simp [allB]
  | b :: l => by
    simp only [List.length_cons, allB, List.mem_flatMap]
    exact ⟨l, mem_allB l, by cases b <;> simp⟩
/-- Rising, at eight values. -/
def upB (l : List Bool) : Bool := (List.range 8).all fun a => (List.range 8).all fun b => !((a &&& b) == a) || (!(l.getD a false) || l.getD b false)
def leB (p q : List Bool) : Bool := (p.zip q).all fun x => !x.1 || x.2
def m3 : List (List Bool) := (allB 8).filter upB
def m4 : List (List Bool) := m3.flatMap fun p => (m3.filter fun q => leB p q).map fun q => p ++ q
theorem m4_len : m4.length = 168 := by decide +kernel

theorem subB_and {a b : Nat} (h : a &&& b = a) : subB a b := fun i hi => by
  have : (a &&& b).testBit i = true := by rw [h]; exact hi
  rw [Nat.testBit_and, Bool.and_eq_true] at this
  exact this.2
theorem tab_getD {n : Nat} {f : Nat → Bool} {b : Nat} (hb : b < 2 ^ n) : (tab n f).getD b false = f b := by simp [tab, List.getD, hb]
theorem mem_m3 {f : Nat → Bool} (h : Rise 3 f) : tab 3 f ∈ m3 := by
  unfold m3
  rw [List.mem_filter]
  refine ⟨by have := mem_allB (tab 3 f); rwa [tab_len] at this, ?_⟩
  unfold upB
  simp only [List.all_eq_true, List.mem_range]
  intro a ha b hb
  rw [tab_getD (n := 3) (by simpa using ha), tab_getD (n := 3) (by simpa using hb)]
  by_cases e : a &&& b = a
  · cases hf : f a with
    | false => simp
    | true => simp [h a b (by simpa using ha) (by simpa using hb) (subB_and e) hf]
  · have : ((a &&& b) == a) = false := beq_eq_false_iff_ne.2 e
    simp [this]
theorem leB_tab {n : Nat} {f g : Nat → Bool} (h : ∀ b, b < 2 ^ n → f b = true → g b = true) : leB (tab n f) (tab n g) = true := by
  unfold leB tab
  rw [List.all_eq_true]
  intro x hx
  rw [List.zip_map', List.mem_map] at hx
  obtain ⟨b, hb, rfl⟩ := hx
  have := h b (by simpa using hb)
  dsimp only
  cases hf : f b with
  | false => rfl
  | true => simp [this hf]
theorem mem_m4 {f : Nat → Bool} (h : Rise 4 f) : tab 4 f ∈ m4 := by
  rw [tab_succ]
  unfold m4
  rw [List.mem_flatMap]
  refine ⟨_, mem_m3 (rise_low h), ?_⟩
  rw [List.mem_map]
  exact ⟨_, List.mem_filter.2 ⟨mem_m3 (rise_high h), leB_tab (rise_pair h)⟩, rfl⟩

def twice (M : List (List Bool)) : List (List Bool) := M.flatMap fun p => M.map fun q => p ++ q
theorem twice_len (M : List (List Bool)) : (twice M).length = M.length * M.length := by
  unfold twice
  rw [List.length_flatMap]
  have : (M.map fun p => (M.map fun q => p ++ q).length) = List.replicate M.length M.length := by
    rw [List.eq_replicate_iff]
    exact ⟨by simp, fun b hb => by simp at hb; obtain ⟨_, _, rfl⟩ := hb; rfl⟩
  rw [this]
  simp
theorem mem_twice {n : Nat} {M : List (List Bool)} (hM : ∀ f, Rise n f → tab n f ∈ M) {f : Nat → Bool} (h : Rise (n + 1) f) : tab (n + 1) f ∈ twice M := by
  rw [tab_succ]
  unfold twice
  rw [List.mem_flatMap]
  exact ⟨_, hM _ (rise_low h), List.mem_map.2 ⟨_, hM _ (rise_high h), rfl⟩⟩

def m6 : List (List Bool) := twice (twice m4)
theorem m6_len : m6.length = 796594176 := by
  unfold m6
  rw [twice_len, twice_len, m4_len]
theorem mem_m6 {f : Nat → Bool} (h : Rise 6 f) : tab 6 f ∈ m6 := mem_twice (fun g hg => mem_twice (fun k hk => mem_m4 hk) hg) h

end Go.Proofs.Ytjagijohfkffiab

/- Plain mathematics: how many states there are, at most. -/
namespace Go.Proofs.Ytjagijohfkffiab
set_option linter.unusedVariables false

def leS (s a b : Bool) : Prop := if s = true then (a = true → b = true) else (b = true → a = true)
theorem leS_refl (s a : Bool) : leS s a a := by unfold leS; split <;> exact id
theorem leS_eq {s a b : Bool} (h : leS s a b) (k : leS s b a) : a = b := by
  unfold leS at h k
  cases s <;> cases a <;> cases b <;> simp_all
theorem leS_or {s a b a' b' : Bool} (h : leS s a a') (k : leS s b b') : leS s (a || b) (a' || b') := by
  unfold leS at *
  cases s <;> cases a <;> cases b <;> cases a' <;> cases b' <;> simp_all
theorem leS_and {s a b a' b' : Bool} (h : leS s a a') (k : leS s b b') : leS s (a && b) (a' && b') := by
  unfold leS at *
  cases s <;> cases a <;> cases b <;> cases a' <;> cases b' <;> simp_all
theorem leS_not {s a a' : Bool} (h : leS (!s) a a') : leS s (!a) (!a') := by
  unfold leS at *
  cases s <;> cases a <;> cases a' <;> simp_all

def tempB (op : Nat) : Bool := op == 70 || op == 71 || op == 85 || op == 82 || op == 88
/-- The bits of the next place that count. -/
def relF : Nat → List Nd → List Nat
  | _, [] => []
  | i, nd :: ms => (if tempB nd.op = true then [if nd.op = 88 then nd.l else i] else []) ++ relF (i + 1) ms
theorem mem_relF : ∀ (ms : List Nd) (i j : Nat) (nd : Nd), ms[j]? = some nd → tempB nd.op = true → (if nd.op = 88 then nd.l else i + j) ∈ relF i ms
  | [], i, j, nd, h, _ => by simp at h
  | n0 :: ms, i, j, nd, h, ht => by
    rw [relF, List.mem_append]
    cases j with
    | zero =>
      simp at h
      subst h
      left
      rw [if_pos ht]
      simp
    | succ j =>
      right
      have := mem_relF ms (i + 1) j nd (by simpa using h) ht
      rwa [show i + 1 + j = i + (j + 1) by omega] at this

def Signs (σ : Nat → Bool) (ns : List Nd) : Prop := ∀ i nd, ns[i]? = some nd → SignAt σ i nd
def LeR (ns : List Nd) (σ : Nat → Bool) (N N' : Nat) : Prop := ∀ k, k ∈ relF 0 ns → leS (σ k) (N.testBit k) (N'.testBit k)

theorem bef_mono {ns : List Nd} (hg : Good ns) {σ : Nat → Bool} (hs : Signs σ ns) {x N N' : Nat} (hr : LeR ns σ N N') : ∀ k, k < ns.length → leS (σ k) ((bef ns x N).testBit k) ((bef ns x N').testBit k) := by
  have key : ∀ n k, k < n → k < ns.length → leS (σ k) ((bef ns x N).testBit k) ((bef ns x N').testBit k) := by
    intro n
    induction n with
    | zero => intro k h; omega
    | succ n ih =>
      intro k hk hkl
      obtain ⟨nd, hn⟩ : ∃ nd, ns[k]? = some nd := ⟨ns[k], List.getElem?_eq_getElem hkl⟩
      have e1 := bef_step hg x N k nd hn
      have e2 := bef_step hg x N' k nd hn
      simp only [tb] at e1 e2
      rw [e1, e2]
      have sg := hs k nd hn
      have rel := fun ht => hr _ (mem_relF ns 0 k nd hn ht)
      rcases hg.wf k nd hn with ⟨h, _, _⟩ | ⟨h, hl, _⟩ | ⟨h, hl, hr2⟩
      · simp only [leafB, Bool.or_eq_true, beq_iff_eq] at h
        rcases h with (((h | h) | h) | h) | h <;> simp only [lawB, h] <;> exact leS_refl _ _
      · have s1 := sg.1 h
        have i1 := ih nd.l (by omega) (by omega)
        rw [s1] at i1
        simp only [oneB, Bool.or_eq_true, beq_iff_eq] at h
        rcases h with ((h | h) | h) | h
        · rw [if_pos h] at i1
          simp only [lawB, h]
          exact leS_not i1
        · rw [if_neg (by omega)] at s1
          have r1 := rel (by rw [h]; decide)
          rw [if_pos h, s1] at r1
          simp only [lawB, h]
          exact r1
        · rw [if_neg (by omega)] at i1
          have r1 := rel (by rw [h]; decide)
          rw [if_neg (by omega), Nat.zero_add] at r1
          simp only [lawB, h]
          exact leS_or i1 r1
        · rw [if_neg (by omega)] at i1
          have r1 := rel (by rw [h]; decide)
          rw [if_neg (by omega), Nat.zero_add] at r1
          simp only [lawB, h]
          exact leS_and i1 r1
      · obtain ⟨s1, s2⟩ := sg.2 h
        have i1 := ih nd.l (by omega) (by omega)
        have i2 := ih nd.r (by omega) (by omega)
        rw [s1] at i1
        rw [s2] at i2
        simp only [twoB, Bool.or_eq_true, beq_iff_eq] at h
        rcases h with ((h | h) | h) | h
        · simp only [lawB, h]
          exact leS_and i1 i2
        · simp only [lawB, h]
          exact leS_or i1 i2
        · have r1 := rel (by rw [h]; decide)
          rw [if_neg (by omega), Nat.zero_add] at r1
          simp only [lawB, h]
          exact leS_or i2 (leS_and i1 r1)
        · have r1 := rel (by rw [h]; decide)
          rw [if_neg (by omega), Nat.zero_add] at r1
          simp only [lawB, h]
          exact leS_and i2 (leS_or i1 r1)
  exact fun k hk => key (k + 1) k (by omega) hk

theorem relF_lt {ns : List Nd} (hg : Good ns) : ∀ k ∈ relF 0 ns, k < ns.length := by
  have key : ∀ (ms : List Nd) (i : Nat), (∀ j nd, ms[j]? = some nd → nd.l < ns.length ∧ i + j < ns.length) → ∀ k ∈ relF i ms, k < ns.length := by
    intro ms
    induction ms with
    | nil => intro i _ k hk; simp [relF] at hk
    | cons nd ms ih =>
      intro i h k hk
      rw [relF, List.mem_append] at hk
      rcases hk with hk | hk
      · split at hk
        · simp at hk
          obtain ⟨h1, h2⟩ := h 0 nd rfl
          subst hk
          split <;> omega
        · simp at hk
      · exact ih (i + 1) (fun j n hj => by
          obtain ⟨h1, h2⟩ := h (j + 1) n (by simpa using hj)
          exact ⟨h1, by omega⟩) k hk
  refine key ns 0 (fun j nd hj => ?_)
  obtain ⟨h1, h2, _⟩ := wf2_lt hg.wf hj
  exact ⟨h2, by omega⟩

theorem back_mono {ns : List Nd} (hg : Good ns) {σ : Nat → Bool} (hs : Signs σ ns) {N N' : Nat} (hr : LeR ns σ N N') : ∀ (u : List Nat), u ≠ [] → ∀ k, k < ns.length → leS (σ k) ((back ns u N).testBit k) ((back ns u N').testBit k)
  | [], h, _, _ => absurd rfl h
  | [a], _, k, hk => bef_mono hg hs hr k hk
  | a :: b :: u, _, k, hk => bef_mono hg hs (fun j hj => back_mono hg hs hr (b :: u) (by simp) j (relF_lt hg j hj)) k hk

theorem cdTo_pow (S : Nat → Bool) {k : Nat} (h : k ≤ 8) : cdTo S k < 2 ^ k := by
  refine Nat.lt_pow_two_of_testBit _ fun i hi => ?_
  by_cases h8 : i < 8
  · rw [cdTo_bit S k h i h8, if_neg (by omega)]
  · exact Nat.testBit_lt_two_pow (Nat.lt_of_lt_of_le (cdTo_lt S k h) (by rw [show (256 : Nat) = 2 ^ 8 by rfl]; exact Nat.pow_le_pow_right (by omega) (by omega)))

section
variable {ns : List Nd} (hg : Good ns) {σ : Nat → Bool} (hs : Signs σ ns)

/-- A view out of the six bits that count; and back. -/
def vw (ns : List Nd) (σ : Nat → Bool) (b : Nat) : Nat := cdTo (fun k => decide (k ∈ relF 0 ns) && (b.testBit ((relF 0 ns).idxOf k) == σ k)) ns.length
def pj (ns : List Nd) (σ : Nat → Bool) (N : Nat) : Nat := cdTo (fun i => N.testBit ((relF 0 ns).getD i 0) == σ ((relF 0 ns).getD i 0)) 6

theorem vw_bit {ns : List Nd} (hg : Good ns) (σ : Nat → Bool) (b : Nat) {k : Nat} (hk : k ∈ relF 0 ns) : (vw ns σ b).testBit k = (b.testBit ((relF 0 ns).idxOf k) == σ k) := by
  have h8 := hg.le
  have hl := relF_lt hg k hk
  unfold vw
  rw [cdTo_bit _ _ h8 k (by omega), if_pos hl]
  simp [hk]
theorem vw_pj {ns : List Nd} (hg : Good ns) (h6 : (relF 0 ns).length ≤ 6) (σ : Nat → Bool) (N : Nat) {k : Nat} (hk : k ∈ relF 0 ns) : (vw ns σ (pj ns σ N)).testBit k = N.testBit k := by
  have hi := List.idxOf_lt_length_of_mem hk
  rw [vw_bit hg σ _ hk]
  unfold pj
  rw [cdTo_bit _ 6 (by omega) _ (by omega), if_pos (by omega)]
  have : (relF 0 ns).getD ((relF 0 ns).idxOf k) 0 = k := by
    rw [List.getD, List.getElem?_eq_getElem hi]
    simp
  rw [this]
  cases N.testBit k <;> cases σ k <;> rfl

def hOf (ns : List Nd) (σ : Nat → Bool) (u : List Nat) : Nat → Bool := fun b => (back ns u (vw ns σ b)).testBit (ns.length - 1)

theorem hOf_rise {ns : List Nd} (hg : Good ns) {σ : Nat → Bool} (hs : Signs σ ns) (ht : σ (ns.length - 1) = true) (h6 : (relF 0 ns).length ≤ 6) {u : List Nat} (hu : u ≠ []) : Rise 6 (hOf ns σ u) := by
  intro a b ha hb hsub hf
  have hp := hg.pos
  have hr : LeR ns σ (vw ns σ a) (vw ns σ b) := fun k hk => by
    rw [vw_bit hg σ a hk, vw_bit hg σ b hk]
    have := hsub ((relF 0 ns).idxOf k)
    unfold leS
    cases σ k <;> cases h1 : a.testBit ((relF 0 ns).idxOf k) <;> cases h2 : b.testBit ((relF 0 ns).idxOf k) <;> simp_all
  have := back_mono hg hs hr u hu (ns.length - 1) (by omega)
  rw [ht] at this
  unfold leS at this
  rw [if_pos rfl] at this
  exact this hf
theorem hOf_pj {ns : List Nd} (hg : Good ns) {σ : Nat → Bool} (hs : Signs σ ns) (h6 : (relF 0 ns).length ≤ 6) {u : List Nat} (hu : u ≠ []) (N : Nat) : hOf ns σ u (pj ns σ N) = (back ns u N).testBit (ns.length - 1) := by
  have hp := hg.pos
  unfold hOf
  refine leS_eq (s := σ (ns.length - 1)) ?_ ?_
  · exact back_mono hg hs (fun k hk => by rw [vw_pj hg h6 σ N hk]; exact leS_refl _ _) u hu _ (by omega)
  · exact back_mono hg hs (fun k hk => by rw [vw_pj hg h6 σ N hk]; exact leS_refl _ _) u hu _ (by omega)
end

/-- Words that lead to unlike groups are few, where no more than six bits count. -/
theorem few_six {ns : List Nd} (hg : Good ns) (ht : Seg 0 ns) (h6 : (relF 0 ns).length ≤ 6) {liv : Nat → Bool} (hl : LivP ns (calmsTo ns ns.length) liv) (us : List (List Nat)) (hu : ∀ u ∈ us, u ≠ [] ∧ ∀ x ∈ u, x < 8)
    (hd : (us.map fun u => gv (runG ns liv (begB ns liv) u)).Nodup) : us.length ≤ 796594176 := by
  obtain ⟨σ, hr, hs0⟩ := seg_sign ht true
  have hs : Signs σ ns := fun i nd hi => by have := hs0 i nd hi; rwa [Nat.zero_add] at this
  rw [Nat.zero_add] at hr
  have key : (us.map fun u => tab 6 (hOf ns σ u)).Nodup := by
    rw [List.nodup_iff_pairwise_ne, List.pairwise_map] at hd ⊢
    refine List.Pairwise.imp_of_mem ?_ hd
    intro u v hu1 hv1 hne e
    refine hne (gv_congr fun N hN => ?_)
    obtain ⟨a1, a2⟩ := hu u hu1
    obtain ⟨b1, b2⟩ := hu v hv1
    rw [Bool.eq_iff_iff, runG_iff hg hl u a2, runG_iff hg hl v b2, ← hOf_pj hg hs h6 a1, ← hOf_pj hg hs h6 b1]
    have : pj ns σ N < 2 ^ 6 := cdTo_pow _ (by omega)
    rw [tab_inj e this]
  have := nodup_sub _ m6 key (fun x hx => by
    obtain ⟨u, hu1, rfl⟩ := List.mem_map.1 hx
    exact mem_m6 (hOf_rise hg hs hr h6 (hu u hu1).1))
  rw [m6_len] at this
  simpa using this

end Go.Proofs.Ytjagijohfkffiab
