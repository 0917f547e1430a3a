import Derived.RowKit

/- Plain mathematics: formulas as lists of nodes, as both readers list them. Nothing of the dump. -/
namespace Go.Proofs.Ytjagijohfkffiaa

/-- One sign of a formula; l, r: the numbers of the nodes below it. -/
structure Nd where
  op : Nat
  l : Nat
  r : Nat

/-- The byte at a place; 0 behind the end. -/
def bt (s : ByteArray) (i : Nat) : Nat := if h : i < s.size then (s[i]'h).toNat else 0

theorem bt_in {s : ByteArray} {i : Nat} (h : i < s.size) : bt s i = (s[i]'h).toNat := by simp [bt, h]
theorem bt_out {s : ByteArray} {i : Nat} (h : ¬ i < s.size) : bt s i = 0 := by simp [bt, h]
theorem bt_lt {s : ByteArray} {i : Nat} (h : bt s i ≠ 0) : i < s.size := by
  by_cases k : i < s.size
  · exact k
  · exact absurd (bt_out k) h
theorem bt_256 (s : ByteArray) (i : Nat) : bt s i < 256 := by
  by_cases k : i < s.size
  · rw [bt_in k]; exact UInt8.toNat_lt _
  · rw [bt_out k]; omega

def leafB (b : Nat) : Bool := b == 48 || b == 49 || b == 112 || b == 113 || b == 114
def oneB (b : Nat) : Bool := b == 33 || b == 88 || b == 70 || b == 71
def twoB (b : Nat) : Bool := b == 38 || b == 124 || b == 85 || b == 82

/-- Both readers: from place a, with ns already listed; fuel k. -/
def ps : Nat → ByteArray → Nat → List Nd → Option (Nat × List Nd)
  | 0, _, _, _ => none
  | k + 1, s, a, ns =>
    if leafB (bt s a) then some (a + 1, ns ++ [⟨bt s a, 0, 0⟩])
    else if oneB (bt s a) then
      match ps k s (a + 1) ns with
      | none => none
      | some (a1, n1) => some (a1, n1 ++ [⟨bt s a, n1.length - 1, 0⟩])
    else if bt s a = 40 then
      match ps k s (a + 1) ns with
      | none => none
      | some (a1, n1) =>
        if twoB (bt s a1) then
          match ps k s (a1 + 1) n1 with
          | none => none
          | some (a2, n2) => if bt s a2 = 41 then some (a2 + 1, n2 ++ [⟨bt s a1, n1.length - 1, n2.length - 1⟩]) else none
        else none
    else none

/-- What stands behind an opening bracket, the bracket taken. -/
def ps2 (k : Nat) (s : ByteArray) (a : Nat) (ns : List Nd) : Option (Nat × List Nd) :=
  match ps k s a ns with
  | none => none
  | some (a1, n1) =>
    if twoB (bt s a1) then
      match ps k s (a1 + 1) n1 with
      | none => none
      | some (a2, n2) => if bt s a2 = 41 then some (a2 + 1, n2 ++ [⟨bt s a1, n1.length - 1, n2.length - 1⟩]) else none
    else none

/-- What stands behind a sign for one formula, the sign taken. -/
def ps1 (op : Nat) (k : Nat) (s : ByteArray) (a : Nat) (ns : List Nd) : Option (Nat × List Nd) :=
  match ps k s a ns with
  | none => none
  | some (a1, n1) => some (a1, n1 ++ [⟨op, n1.length - 1, 0⟩])

theorem ps_leaf {k : Nat} {s : ByteArray} {a : Nat} {ns : List Nd} (h : leafB (bt s a) = true) : ps (k + 1) s a ns = some (a + 1, ns ++ [⟨bt s a, 0, 0⟩]) := by
  simp [ps, h]
theorem leaf_not_one {b : Nat} (h : oneB b = true) : leafB b = false := by
  simp only [oneB, Bool.or_eq_true, beq_iff_eq] at h
  rcases h with ((h | h) | h) | h <;> subst h <;> decide
theorem ps_one {k : Nat} {s : ByteArray} {a : Nat} {ns : List Nd} (h : oneB (bt s a) = true) : ps (k + 1) s a ns = ps1 (bt s a) k s (a + 1) ns := by
  simp [ps, h, leaf_not_one h, ps1]
theorem ps_two {k : Nat} {s : ByteArray} {a : Nat} {ns : List Nd} (h : bt s a = 40) : ps (k + 1) s a ns = ps2 k s (a + 1) ns := by
  simp [ps, h, ps2, leafB, oneB]
theorem ps_no {k : Nat} {s : ByteArray} {a : Nat} {ns : List Nd} (h1 : leafB (bt s a) = false) (h2 : oneB (bt s a) = false) (h3 : ¬ bt s a = 40) : ps (k + 1) s a ns = none := by
  simp [ps, h1, h2, h3]

theorem leaf_ne {b : Nat} (h : leafB b = true) : b ≠ 0 := by intro e; subst e; revert h; decide
theorem one_ne {b : Nat} (h : oneB b = true) : b ≠ 0 := by intro e; subst e; revert h; decide
theorem two_ne {b : Nat} (h : twoB b = true) : b ≠ 0 := by intro e; subst e; revert h; decide

/-- Where it ends, and how much longer the list is: no more than a node a byte. -/
theorem ps_grows : ∀ (k : Nat) (s : ByteArray) (a : Nat) (ns : List Nd) (a' : Nat) (ns' : List Nd), ps k s a ns = some (a', ns') →
    a < a' ∧ a' ≤ s.size ∧ ns'.length + a ≤ ns.length + a' ∧ ns.length < ns'.length
  | 0, _, _, _, _, _, h => by simp [ps] at h
  | k + 1, s, a, ns, a', ns', h => by
    by_cases b1 : leafB (bt s a) = true
    · rw [ps_leaf b1] at h
      simp only [Option.some.injEq, Prod.mk.injEq] at h
      obtain ⟨rfl, rfl⟩ := h
      have := bt_lt (leaf_ne b1)
      simp; omega
    · rw [Bool.not_eq_true] at b1
      by_cases b2 : oneB (bt s a) = true
      · rw [ps_one b2] at h
        unfold ps1 at h
        cases e : ps k s (a + 1) ns with
        | none => rw [e] at h; simp at h
        | some x =>
          obtain ⟨a1, n1⟩ := x
          rw [e] at h
          simp only [Option.some.injEq, Prod.mk.injEq] at h
          obtain ⟨rfl, rfl⟩ := h
          have := ps_grows k s _ _ _ _ e
          simp; omega
      · rw [Bool.not_eq_true] at b2
        by_cases b3 : bt s a = 40
        · rw [ps_two b3] at h
          unfold ps2 at h
          cases e : ps k s (a + 1) ns with
          | none => rw [e] at h; simp at h
          | some x =>
            obtain ⟨a1, n1⟩ := x
            rw [e] at h
            simp only at h
            by_cases b4 : twoB (bt s a1) = true
            · rw [if_pos b4] at h
              cases e2 : ps k s (a1 + 1) n1 with
              | none => rw [e2] at h; simp at h
              | some x =>
                obtain ⟨a2, n2⟩ := x
                rw [e2] at h
                simp only at h
                by_cases b5 : bt s a2 = 41
                · rw [if_pos b5] at h
                  simp only [Option.some.injEq, Prod.mk.injEq] at h
                  obtain ⟨rfl, rfl⟩ := h
                  have g1 := ps_grows k s _ _ _ _ e
                  have g2 := ps_grows k s _ _ _ _ e2
                  have := bt_lt (s := s) (i := a2) (by omega)
                  simp; omega
                · rw [if_neg b5] at h; simp at h
            · rw [if_neg b4] at h; simp at h
        · rw [ps_no b1 b2 b3] at h; simp at h

/-- The nodes below a node stand ahead of it. -/
def Wf (ns : List Nd) : Prop := ∀ (i : Nat) (n : Nd), ns[i]? = some n → (leafB n.op = false → n.l < i) ∧ (twoB n.op = true → n.r < i)

theorem Wf.snoc {ns : List Nd} (h : Wf ns) (n : Nd) (h1 : leafB n.op = false → n.l < ns.length) (h2 : twoB n.op = true → n.r < ns.length) : Wf (ns ++ [n]) := by
  intro i m hm
  by_cases hi : i < ns.length
  · rw [List.getElem?_append_left hi] at hm
    exact h i m hm
  · rw [List.getElem?_append_right (by omega)] at hm
    have : i = ns.length := by
      have := (List.getElem?_eq_some_iff.1 hm).1
      simp at this; omega
    subst this
    simp at hm
    subst hm
    exact ⟨h1, h2⟩

theorem wf_nil : Wf [] := by intro i n h; simp at h

theorem one_not_two {b : Nat} (h : oneB b = true) : twoB b = false := by
  simp only [oneB, Bool.or_eq_true, beq_iff_eq] at h
  rcases h with ((h | h) | h) | h <;> subst h <;> decide
theorem leaf_not_two {b : Nat} (h : leafB b = true) : twoB b = false := by
  simp only [leafB, Bool.or_eq_true, beq_iff_eq] at h
  rcases h with (((h | h) | h) | h) | h <;> subst h <;> decide
theorem two_not_leaf {b : Nat} (h : twoB b = true) : leafB b = false := by
  simp only [twoB, Bool.or_eq_true, beq_iff_eq] at h
  rcases h with ((h | h) | h) | h <;> subst h <;> decide
theorem leaf_is {b : Nat} (h : leafB b = true) : b = 48 ∨ b = 49 ∨ b = 112 ∨ b = 113 ∨ b = 114 := by
  simpa [leafB, or_assoc] using h
theorem one_is {b : Nat} (h : oneB b = true) : b = 33 ∨ b = 88 ∨ b = 70 ∨ b = 71 := by
  simpa [oneB, or_assoc] using h
theorem two_is {b : Nat} (h : twoB b = true) : b = 38 ∨ b = 124 ∨ b = 85 ∨ b = 82 := by
  simpa [twoB, or_assoc] using h

/-- The cells of a node, of a list of nodes. -/
def flat (ns : List Nd) : List Value := ns.flatMap fun n => [.int .u8 n.op, .int .i64 n.l, .int .i64 n.r]
theorem flat_snoc (ns : List Nd) (n : Nd) : flat (ns ++ [n]) = flat ns ++ [.int .u8 n.op, .int .i64 n.l, .int .i64 n.r] := by simp [flat]
theorem flat_length (ns : List Nd) : (flat ns).length = ns.length * 3 := by
  induction ns with
  | nil => rfl
  | cons n ns ih => simp only [flat, List.flatMap_cons, List.length_append, List.length_cons, List.length_nil] at ih ⊢; omega

/-- How many of the first k bytes are no brackets. -/
def cntTo (s : ByteArray) : Nat → Nat
  | 0 => 0
  | k + 1 => cntTo s k + if bt s k = 40 ∨ bt s k = 41 then 0 else 1

theorem cntTo_le (s : ByteArray) (k : Nat) : cntTo s k ≤ k := by
  induction k with
  | zero => exact Nat.le_refl _
  | succ k ih => unfold cntTo; split <;> omega
theorem cnt_in {s : ByteArray} {k : Nat} (h : bt s k ≠ 40) (h2 : bt s k ≠ 41) : cntTo s (k + 1) = cntTo s k + 1 := by
  simp only [cntTo]; rw [if_neg (by omega)]
theorem cnt_out {s : ByteArray} {k : Nat} (h : bt s k = 40 ∨ bt s k = 41) : cntTo s (k + 1) = cntTo s k := by
  simp only [cntTo]; rw [if_pos h]; rfl

theorem ps_cnt : ∀ (k : Nat) (s : ByteArray) (a : Nat) (ns : List Nd) (a' : Nat) (ns' : List Nd), ps k s a ns = some (a', ns') → ns'.length + cntTo s a = ns.length + cntTo s a'
  | 0, _, _, _, _, _, h => by simp [ps] at h
  | k + 1, s, a, ns, a', ns', h => by
    by_cases b1 : leafB (bt s a) = true
    · rw [ps_leaf b1] at h
      simp only [Option.some.injEq, Prod.mk.injEq] at h
      obtain ⟨rfl, rfl⟩ := h
      have := leaf_is b1
      rw [cnt_in (by omega) (by omega)]
      simp; omega
    · rw [Bool.not_eq_true] at b1
      by_cases b2 : oneB (bt s a) = true
      · rw [ps_one b2] at h
        unfold ps1 at h
        cases e : ps k s (a + 1) ns with
        | none => rw [e] at h; simp at h
        | some x =>
          obtain ⟨a1, n1⟩ := x
          rw [e] at h
          simp only [Option.some.injEq, Prod.mk.injEq] at h
          obtain ⟨rfl, rfl⟩ := h
          have g := ps_cnt k s _ _ _ _ e
          have := one_is b2
          rw [cnt_in (by omega) (by omega)] at g
          simp; omega
      · rw [Bool.not_eq_true] at b2
        by_cases b3 : bt s a = 40
        · rw [ps_two b3] at h
          unfold ps2 at h
          cases e : ps k s (a + 1) ns with
          | none => rw [e] at h; simp at h
          | some x =>
            obtain ⟨a1, n1⟩ := x
            rw [e] at h
            simp only at h
            by_cases b4 : twoB (bt s a1) = true
            · rw [if_pos b4] at h
              cases e2 : ps k s (a1 + 1) n1 with
              | none => rw [e2] at h; simp at h
              | some x =>
                obtain ⟨a2, n2⟩ := x
                rw [e2] at h
                simp only at h
                by_cases b5 : bt s a2 = 41
                · rw [if_pos b5] at h
                  simp only [Option.some.injEq, Prod.mk.injEq] at h
                  obtain ⟨rfl, rfl⟩ := h
                  have g1 := ps_cnt k s _ _ _ _ e
                  have g2 := ps_cnt k s _ _ _ _ e2
                  have := two_is b4
                  rw [cnt_out (Or.inl b3)] at g1
                  rw [cnt_in (by omega) (by omega)] at g2
                  rw [cnt_out (Or.inr b5)]
                  simp; omega
                · rw [if_neg b5] at h; simp at h
            · rw [if_neg b4] at h; simp at h
        · rw [ps_no b1 b2 b3] at h; simp at h

/-- A formula's text: the error (0: none) and the nodes. -/
def parseOf (s : ByteArray) : Nat × List Nd :=
  if 24 < s.size then (1, []) else
  match ps 25 s 0 [] with
  | none => (2, [])
  | some (a, ns) => if a = s.size then (if 8 < ns.length then (3, []) else (0, ns)) else (2, [])

end Go.Proofs.Ytjagijohfkffiaa

/- Plain mathematics: what a formula means at a place of a row of places ('nx': the place behind a place, 'lt': its letter). At nx = (· + 1) it is the document's own. -/
namespace Go.Proofs.Ytjagijohfkffiaa

/-- s steps on. -/
def it (nx : Nat → Nat) : Nat → Nat → Nat
  | 0, i => i
  | s + 1, i => it nx s (nx i)

theorem it_succ (nx : Nat → Nat) (s i : Nat) : it nx (s + 1) i = nx (it nx s i) := by
  induction s generalizing i with
  | zero => rfl
  | succ s ih => exact ih (nx i)
theorem it_add (nx : Nat → Nat) (s t i : Nat) : it nx (s + t) i = it nx s (it nx t i) := by
  induction s with
  | zero => simp [it]
  | succ s ih => rw [show s + 1 + t = (s + t) + 1 by omega, it_succ, it_succ, ih]

/-- B some time, and A up to it. -/
def UU (nx : Nat → Nat) (A B : Nat → Prop) (i : Nat) : Prop := ∃ s, B (it nx s i) ∧ ∀ m, m < s → A (it nx m i)

theorem UU_fix (nx : Nat → Nat) (A B : Nat → Prop) (i : Nat) : UU nx A B i ↔ B i ∨ (A i ∧ UU nx A B (nx i)) := by
  constructor
  · rintro ⟨s, hb, ha⟩
    cases s with
    | zero => exact Or.inl hb
    | succ s => exact Or.inr ⟨ha 0 (by omega), s, hb, fun m hm => ha (m + 1) (by omega)⟩
  · rintro (hb | ⟨ha, s, hb, h⟩)
    · exact ⟨0, hb, fun m hm => by omega⟩
    · refine ⟨s + 1, hb, fun m hm => ?_⟩
      cases m with
      | zero => exact ha
      | succ m => exact h m (by omega)

theorem UU_congr {nx : Nat → Nat} {A A' B B' : Nat → Prop} (ha : ∀ i, A i ↔ A' i) (hb : ∀ i, B i ↔ B' i) (i : Nat) : UU nx A B i ↔ UU nx A' B' i := by
  unfold UU
  constructor
  · rintro ⟨s, h1, h2⟩; exact ⟨s, (hb _).1 h1, fun m hm => (ha _).1 (h2 m hm)⟩
  · rintro ⟨s, h1, h2⟩; exact ⟨s, (hb _).2 h1, fun m hm => (ha _).2 (h2 m hm)⟩

/-- What a node means, by what the nodes listed ahead of it mean. -/
def den (nx lt : Nat → Nat) (n : Nd) (rs : List (Nat → Prop)) (i : Nat) : Prop :=
  if n.op = 49 then True
  else if n.op = 112 then (lt i).testBit 0 = true
  else if n.op = 113 then (lt i).testBit 1 = true
  else if n.op = 114 then (lt i).testBit 2 = true
  else if n.op = 33 then ¬ rs.getD n.l (fun _ => False) i
  else if n.op = 88 then rs.getD n.l (fun _ => False) (nx i)
  else if n.op = 70 then ∃ s, rs.getD n.l (fun _ => False) (it nx s i)
  else if n.op = 71 then ∀ s, rs.getD n.l (fun _ => False) (it nx s i)
  else if n.op = 38 then rs.getD n.l (fun _ => False) i ∧ rs.getD n.r (fun _ => False) i
  else if n.op = 124 then rs.getD n.l (fun _ => False) i ∨ rs.getD n.r (fun _ => False) i
  else if n.op = 85 then ∃ s, rs.getD n.r (fun _ => False) (it nx s i) ∧ ∀ m, m < s → rs.getD n.l (fun _ => False) (it nx m i)
  else if n.op = 82 then ∀ s, rs.getD n.r (fun _ => False) (it nx s i) ∨ ∃ m, m < s ∧ rs.getD n.l (fun _ => False) (it nx m i)
  else False

def rows (nx lt : Nat → Nat) (ns : List Nd) : List (Nat → Prop) := ns.foldl (fun rs n => rs ++ [den nx lt n rs]) []

theorem rows_snoc (nx lt : Nat → Nat) (ns : List Nd) (n : Nd) : rows nx lt (ns ++ [n]) = rows nx lt ns ++ [den nx lt n (rows nx lt ns)] := by
  simp [rows]
theorem foldl_len (nx lt : Nat → Nat) (ns : List Nd) : ∀ rs : List (Nat → Prop), (ns.foldl (fun rs n => rs ++ [den nx lt n rs]) rs).length = rs.length + ns.length := by
  induction ns with
  | nil => intro rs; rfl
  | cons n ns ih => intro rs; simp only [List.foldl_cons, List.length_cons]; rw [ih]; simp; omega
theorem rows_len (nx lt : Nat → Nat) (ns : List Nd) : (rows nx lt ns).length = ns.length := by
  unfold rows; rw [foldl_len]; simp

/-- Node k holds at place i. -/
def sem (nx lt : Nat → Nat) (ns : List Nd) (k i : Nat) : Prop := (rows nx lt ns).getD k (fun _ => False) i

theorem sem_old {nx lt : Nat → Nat} {ns : List Nd} {n : Nd} {k : Nat} (h : k < ns.length) (i : Nat) : sem nx lt (ns ++ [n]) k i = sem nx lt ns k i := by
  unfold sem
  rw [rows_snoc, List.getD, List.getD, List.getElem?_append_left (by rw [rows_len]; exact h)]
theorem sem_new (nx lt : Nat → Nat) (ns : List Nd) (n : Nd) (i : Nat) : sem nx lt (ns ++ [n]) ns.length i = den nx lt n (rows nx lt ns) i := by
  unfold sem
  rw [rows_snoc, List.getD, List.getElem?_append_right (by rw [rows_len]; exact Nat.le_refl _), rows_len]
  simp

theorem foldl_pre (nx lt : Nat → Nat) (ms : List Nd) : ∀ rs : List (Nat → Prop), ∀ k, k < rs.length → (ms.foldl (fun rs n => rs ++ [den nx lt n rs]) rs).getD k (fun _ => False) = rs.getD k (fun _ => False) := by
  induction ms with
  | nil => intro rs k _; rfl
  | cons n ms ih =>
    intro rs k hk
    simp only [List.foldl_cons]
    rw [ih _ k (by simp; omega)]
    simp [List.getD, List.getElem?_append_left hk]
theorem sem_pre {nx lt : Nat → Nat} {ns ms : List Nd} {k : Nat} (h : k < ns.length) (i : Nat) : sem nx lt (ns ++ ms) k i = sem nx lt ns k i := by
  unfold sem rows
  rw [List.foldl_append, foldl_pre _ _ _ _ _ (by rw [foldl_len]; simpa using h)]

/-- What a node means hangs on the rows below it alone. -/
theorem den_congr {nx1 lt1 nx2 lt2 : Nat → Nat} {f : Nat → Nat} (hn : ∀ i, f (nx1 i) = nx2 (f i)) (hl : ∀ i, lt1 i = lt2 (f i)) {n : Nd} {r1 r2 : List (Nat → Prop)}
    (hr : ∀ k i, r1.getD k (fun _ => False) i ↔ r2.getD k (fun _ => False) (f i)) (i : Nat) : den nx1 lt1 n r1 i ↔ den nx2 lt2 n r2 (f i) := by
  have hit : ∀ s i, f (it nx1 s i) = it nx2 s (f i) := by
    intro s
    induction s with
    | zero => intro i; rfl
    | succ s ih => intro i; simp only [it]; rw [ih, hn]
  unfold den
  simp only [hl, hr, hn, hit]

theorem sem_map {nx1 lt1 nx2 lt2 : Nat → Nat} {f : Nat → Nat} (hn : ∀ i, f (nx1 i) = nx2 (f i)) (hl : ∀ i, lt1 i = lt2 (f i)) (ns : List Nd) (k i : Nat) : sem nx1 lt1 ns k i ↔ sem nx2 lt2 ns k (f i) := by
  have key : ∀ ms : List Nd, ∀ r1 r2 : List (Nat → Prop), (r1.length = r2.length) → (∀ k i, r1.getD k (fun _ => False) i ↔ r2.getD k (fun _ => False) (f i)) →
      ∀ k i, (ms.foldl (fun rs n => rs ++ [den nx1 lt1 n rs]) r1).getD k (fun _ => False) i ↔ (ms.foldl (fun rs n => rs ++ [den nx2 lt2 n rs]) r2).getD k (fun _ => False) (f i) := by
    intro ms
    induction ms with
    | nil => intro r1 r2 _ hr; exact hr
    | cons n ms ih =>
      intro r1 r2 hlen hr
      simp only [List.foldl_cons]
      refine ih _ _ (by simp [hlen]) ?_
      intro k i
      by_cases hk : k < r1.length
      · simp only [List.getD, List.getElem?_append_left hk, List.getElem?_append_left (show k < r2.length by omega)]
        exact hr k i
      · simp only [List.getD, List.getElem?_append_right (show r1.length ≤ k by omega), List.getElem?_append_right (show r2.length ≤ k by omega), hlen]
        cases hk0 : k - r2.length with
        | zero => simpa using den_congr hn hl hr i
        | succ j => simp
  exact key ns [] [] rfl (fun k i => by simp) k i

/-- The places of a stem and a loop: behind the last of n comes 'back'. -/
def lnx (n back i : Nat) : Nat := if i + 1 < n then i + 1 else back

theorem lnx_lt {n back i : Nat} (hb : back < n) : lnx n back i < n := by unfold lnx; split <;> omega

theorem it_lt {n back : Nat} (hb : back < n) : ∀ s i, i < n → it (lnx n back) s i < n := by
  intro s
  induction s with
  | zero => intro i h; exact h
  | succ s ih => intro i h; exact ih _ (lnx_lt hb)

/-- Straight on as long as the end is not reached. -/
theorem it_straight {n back : Nat} : ∀ s i, i + s < n → it (lnx n back) s i = i + s := by
  intro s
  induction s with
  | zero => intro i _; rfl
  | succ s ih =>
    intro i h
    simp only [it]
    rw [show lnx n back i = i + 1 by unfold lnx; rw [if_pos (by omega)], ih (i + 1) (by omega)]
    omega
/-- From i on, so many steps lead to 'back'. -/
theorem it_back {n back i : Nat} (hi : i < n) : it (lnx n back) (n - i) i = back := by
  rw [show n - i = (n - 1 - i) + 1 by omega, it_succ, it_straight _ _ (by omega)]
  unfold lnx
  rw [if_neg (by omega)]
/-- Once round the loop. -/
theorem it_round {n back j : Nat} (hb : back < n) (hj : back ≤ j) (hn : j < n) : it (lnx n back) (n - back) j = j := by
  rw [show n - back = (j - back) + (n - j) by omega, it_add, it_back hn, it_straight _ _ (by omega)]
  omega
/-- Within the loop one stays. -/
theorem it_in {n back : Nat} (hb : back < n) : ∀ s i, i < n → back ≤ i + s → back ≤ it (lnx n back) s i := by
  intro s
  induction s with
  | zero => intro i _ h; exact h
  | succ s ih =>
    intro i hi h
    rw [it_succ]
    by_cases hc : back ≤ i + s
    · have key : ∀ y, back ≤ y → back ≤ lnx n back y := by intro y h; unfold lnx; split <;> omega
      exact key _ (ih i hi hc)
    · rw [it_straight s i (by omega)]
      unfold lnx
      split <;> omega

/-- What comes some time comes within n steps. -/
theorem UU_near {n back : Nat} (hb : back < n) {A B : Nat → Prop} {i : Nat} (hi : i < n) (h : UU (lnx n back) A B i) : ∃ s, s < n ∧ B (it (lnx n back) s i) ∧ ∀ m, m < s → A (it (lnx n back) m i) := by
  obtain ⟨s, h1, h2⟩ := h
  induction s using Nat.strongRecOn with
  | _ s ih =>
    by_cases hs : s < n
    · exact ⟨s, hs, h1, h2⟩
    · refine ih (s - (n - back)) (by omega) ?_ (fun m hm => h2 m (by omega))
      have h3 := it_round hb (it_in hb (s - (n - back)) i hi (by omega)) (it_lt hb (s - (n - back)) i hi)
      rw [← it_add, show n - back + (s - (n - back)) = s by omega] at h3
      rw [← h3]
      exact h1

/-- Two sweeps settle what comes some time. -/
theorem sweep_until {n back : Nat} (hb : back < n) (A B : Nat → Bool) (x1 x2 : Nat → Bool)
    (h1 : ∀ i, i < n → x1 i = (B i || (A i && (if i + 1 < n then x1 (i + 1) else false)))) (h2 : ∀ i, i < n → x2 i = (B i || (A i && (if i + 1 < n then x2 (i + 1) else x1 back)))) (i : Nat) (hi : i < n) :
    x2 i = true ↔ UU (lnx n back) (fun i => A i = true) (fun i => B i = true) i := by
  have fx := UU_fix (lnx n back) (fun i => A i = true) (fun i => B i = true)
  -- sound
  have s1 : ∀ d i, i + d + 1 = n → x1 i = true → UU (lnx n back) (fun i => A i = true) (fun i => B i = true) i := by
    intro d
    induction d with
    | zero =>
      intro i hd hx
      rw [h1 i (by omega), if_neg (by omega)] at hx
      rw [fx]; simp at hx; exact Or.inl hx
    | succ d ih =>
      intro i hd hx
      rw [h1 i (by omega), if_pos (by omega)] at hx
      rw [fx]
      simp only [Bool.or_eq_true, Bool.and_eq_true] at hx
      rcases hx with hx | ⟨ha, hx⟩
      · exact Or.inl hx
      · refine Or.inr ⟨ha, ?_⟩
        rw [show lnx n back i = i + 1 by unfold lnx; rw [if_pos (by omega)]]
        exact ih (i + 1) (by omega) hx
  -- what comes before the end is seen by the first sweep
  have c1 : ∀ s i, i + s < n → B (i + s) = true → (∀ m, m < s → A (i + m) = true) → x1 i = true := by
    intro s
    induction s with
    | zero => intro i hi hB _; rw [h1 i (by omega)]; simp at hB; simp [hB]
    | succ s ih =>
      intro i hi hB hA
      rw [h1 i (by omega), if_pos (by omega)]
      have := ih (i + 1) (by omega) (by rw [show i + 1 + s = i + (s + 1) by omega]; exact hB) (fun m hm => by rw [show i + 1 + m = i + (m + 1) by omega]; exact hA (m + 1) (by omega))
      have ha := hA 0 (by omega)
      simp only [Nat.add_zero] at ha
      simp [this, ha]
  have b1 : x1 back = true ↔ UU (lnx n back) (fun i => A i = true) (fun i => B i = true) back := by
    constructor
    · exact s1 (n - 1 - back) back (by omega)
    · rintro ⟨s, hB, hA⟩
      induction s using Nat.strongRecOn with
      | _ s ih =>
        by_cases hs : s < n - back
        · rw [it_straight s back (by omega)] at hB
          exact c1 s back (by omega) hB (fun m hm => by have := hA m hm; rw [it_straight m back (by omega)] at this; exact this)
        · refine ih (s - (n - back)) (by omega) ?_ (fun m hm => hA m (by omega))
          have h3 := it_round hb (Nat.le_refl back) hb
          rw [show s = (s - (n - back)) + (n - back) by omega, it_add, h3] at hB
          exact hB
  have s2 : ∀ d i, i + d + 1 = n → (x2 i = true ↔ UU (lnx n back) (fun i => A i = true) (fun i => B i = true) i) := by
    intro d
    induction d with
    | zero =>
      intro i hd
      rw [h2 i (by omega), if_neg (by omega), fx, show lnx n back i = back by unfold lnx; rw [if_neg (by omega)], ← b1]
      simp
    | succ d ih =>
      intro i hd
      rw [h2 i (by omega), if_pos (by omega), fx, show lnx n back i = i + 1 by unfold lnx; rw [if_pos (by omega)], ← ih (i + 1) (by omega)]
      simp
  exact s2 (n - 1 - i) i (by omega)

end Go.Proofs.Ytjagijohfkffiaa
