import Derived.RowKit
import Derived.Test.YtjagijohfkffiabRows
import Derived.WalkKit
import Derived.WalkSmall
import Derived.BigQuiet
import Derived.WalkSpells
import Derived.WalkLawsBesides

/- Plain mathematics: formulas as lists of nodes, as both readers list them. Nothing of the dump. -/
namespace Go.Proofs.Ytjagijohfkffiab

/-- One sign of a formula; l, r: the numbers of the nodes below it. -/
structure Nd where
  op : Nat
  l : Nat
  r : Nat

/-- The byte at a place; 0 behind the end. -/
def bt (s : ByteArray) (i : Nat) : Nat := if h : i < s.size then (s[i]'h).toNat else 0

theorem bt_in {s : ByteArray} {i : Nat} (h : i < s.size) : bt s i = (s[i]'h).toNat := by simp [bt, h]
theorem bt_out {s : ByteArray} {i : Nat} (h : ¬ i < s.size) : bt s i = 0 := by simp [bt, h]
theorem bt_lt {s : ByteArray} {i : Nat} (h : bt s i ≠ 0) : i < s.size := by
  by_cases k : i < s.size
  · exact k
  · exact absurd (bt_out k) h
theorem bt_256 (s : ByteArray) (i : Nat) : bt s i < 256 := by
  by_cases k : i < s.size
  · rw [bt_in k]; exact UInt8.toNat_lt _
  · rw [bt_out k]; omega

def leafB (b : Nat) : Bool := b == 48 || b == 49 || b == 112 || b == 113 || b == 114
def oneB (b : Nat) : Bool := b == 33 || b == 88 || b == 70 || b == 71
def twoB (b : Nat) : Bool := b == 38 || b == 124 || b == 85 || b == 82

/-- Both readers: from place a, with ns already listed; fuel k. -/
def ps : Nat → ByteArray → Nat → List Nd → Option (Nat × List Nd)
  | 0, _, _, _ => none
  | k + 1, s, a, ns =>
    if leafB (bt s a) then some (a + 1, ns ++ [⟨bt s a, 0, 0⟩])
    else if oneB (bt s a) then
      match ps k s (a + 1) ns with
      | none => none
      | some (a1, n1) => some (a1, n1 ++ [⟨bt s a, n1.length - 1, 0⟩])
    else if bt s a = 40 then
      match ps k s (a + 1) ns with
      | none => none
      | some (a1, n1) =>
        if twoB (bt s a1) then
          match ps k s (a1 + 1) n1 with
          | none => none
          | some (a2, n2) => if bt s a2 = 41 then some (a2 + 1, n2 ++ [⟨bt s a1, n1.length - 1, n2.length - 1⟩]) else none
        else none
    else none

/-- What stands behind an opening bracket, the bracket taken. -/
def ps2 (k : Nat) (s : ByteArray) (a : Nat) (ns : List Nd) : Option (Nat × List Nd) :=
  match ps k s a ns with
  | none => none
  | some (a1, n1) =>
    if twoB (bt s a1) then
      match ps k s (a1 + 1) n1 with
      | none => none
      | some (a2, n2) => if bt s a2 = 41 then some (a2 + 1, n2 ++ [⟨bt s a1, n1.length - 1, n2.length - 1⟩]) else none
    else none

/-- What stands behind a sign for one formula, the sign taken. -/
def ps1 (op : Nat) (k : Nat) (s : ByteArray) (a : Nat) (ns : List Nd) : Option (Nat × List Nd) :=
  match ps k s a ns with
  | none => none
  | some (a1, n1) => some (a1, n1 ++ [⟨op, n1.length - 1, 0⟩])

theorem ps_leaf {k : Nat} {s : ByteArray} {a : Nat} {ns : List Nd} (h : leafB (bt s a) = true) : ps (k + 1) s a ns = some (a + 1, ns ++ [⟨bt s a, 0, 0⟩]) := by
  simp [ps, h]
theorem leaf_not_one {b : Nat} (h : oneB b = true) : leafB b = false := by
  simp only [oneB, Bool.or_eq_true, beq_iff_eq] at h
  rcases h with ((h | h) | h) | h <;> subst h <;> decide
theorem ps_one {k : Nat} {s : ByteArray} {a : Nat} {ns : List Nd} (h : oneB (bt s a) = true) : ps (k + 1) s a ns = ps1 (bt s a) k s (a + 1) ns := by
  simp [ps, h, leaf_not_one h, ps1]
theorem ps_two {k : Nat} {s : ByteArray} {a : Nat} {ns : List Nd} (h : bt s a = 40) : ps (k + 1) s a ns = ps2 k s (a + 1) ns := by
  simp [ps, h, ps2, leafB, oneB]
theorem ps_no {k : Nat} {s : ByteArray} {a : Nat} {ns : List Nd} (h1 : leafB (bt s a) = false) (h2 : oneB (bt s a) = false) (h3 : ¬ bt s a = 40) : ps (k + 1) s a ns = none := by
  simp [ps, h1, h2, h3]

theorem leaf_ne {b : Nat} (h : leafB b = true) : b ≠ 0 := by intro e; subst e; revert h; decide
theorem two_ne {b : Nat} (h : twoB b = true) : b ≠ 0 := by intro e; subst e; revert h; decide

/-- Where it ends, and how much longer the list is: no more than a node a byte. -/
theorem ps_grows : ∀ (k : Nat) (s : ByteArray) (a : Nat) (ns : List Nd) (a' : Nat) (ns' : List Nd), ps k s a ns = some (a', ns') →
    a < a' ∧ a' ≤ s.size ∧ ns'.length + a ≤ ns.length + a' ∧ ns.length < ns'.length
  | 0, _, _, _, _, _, h => by simp [ps] at h
  | k + 1, s, a, ns, a', ns', h => by
    by_cases b1 : leafB (bt s a) = true
    · rw [ps_leaf b1] at h
      simp only [Option.some.injEq, Prod.mk.injEq] at h
      obtain ⟨rfl, rfl⟩ := h
      have := bt_lt (leaf_ne b1)
      simp; omega
    · rw [Bool.not_eq_true] at b1
      by_cases b2 : oneB (bt s a) = true
      · rw [ps_one b2] at h
        unfold ps1 at h
        cases e : ps k s (a + 1) ns with
        | none => rw [e] at h; simp at h
        | some x =>
          obtain ⟨a1, n1⟩ := x
          rw [e] at h
          simp only [Option.some.injEq, Prod.mk.injEq] at h
          obtain ⟨rfl, rfl⟩ := h
          have := ps_grows k s _ _ _ _ e
          simp; omega
      · rw [Bool.not_eq_true] at b2
        by_cases b3 : bt s a = 40
        · rw [ps_two b3] at h
          unfold ps2 at h
          cases e : ps k s (a + 1) ns with
          | none => rw [e] at h; simp at h
          | some x =>
            obtain ⟨a1, n1⟩ := x
            rw [e] at h
            simp only at h
            by_cases b4 : twoB (bt s a1) = true
            · rw [if_pos b4] at h
              cases e2 : ps k s (a1 + 1) n1 with
              | none => rw [e2] at h; simp at h
              | some x =>
                obtain ⟨a2, n2⟩ := x
                rw [e2] at h
                simp only at h
                by_cases b5 : bt s a2 = 41
                · rw [if_pos b5] at h
                  simp only [Option.some.injEq, Prod.mk.injEq] at h
                  obtain ⟨rfl, rfl⟩ := h
                  have g1 := ps_grows k s _ _ _ _ e
                  have g2 := ps_grows k s _ _ _ _ e2
                  have := bt_lt (s := s) (i := a2) (by omega)
                  simp; omega
                · rw [if_neg b5] at h; simp at h
            · rw [if_neg b4] at h; simp at h
        · rw [ps_no b1 b2 b3] at h; simp at h

/-- The nodes below a node stand ahead of it. -/
def Wf (ns : List Nd) : Prop := ∀ (i : Nat) (n : Nd), ns[i]? = some n → (leafB n.op = false → n.l < i) ∧ (twoB n.op = true → n.r < i)

theorem Wf.snoc {ns : List Nd} (h : Wf ns) (n : Nd) (h1 : leafB n.op = false → n.l < ns.length) (h2 : twoB n.op = true → n.r < ns.length) : Wf (ns ++ [n]) := by
  intro i m hm
  by_cases hi : i < ns.length
  · rw [List.getElem?_append_left hi] at hm
    exact h i m hm
  · rw [List.getElem?_append_right (by omega)] at hm
    have : i = ns.length := by
      have := (List.getElem?_eq_some_iff.1 hm).1
      simp at this; omega
    subst this
    simp at hm
    subst hm
    exact ⟨h1, h2⟩

theorem one_not_two {b : Nat} (h : oneB b = true) : twoB b = false := by
  simp only [oneB, Bool.or_eq_true, beq_iff_eq] at h
  rcases h with ((h | h) | h) | h <;> subst h <;> decide
theorem leaf_not_two {b : Nat} (h : leafB b = true) : twoB b = false := by
  simp only [leafB, Bool.or_eq_true, beq_iff_eq] at h
  rcases h with (((h | h) | h) | h) | h <;> subst h <;> decide
theorem two_not_leaf {b : Nat} (h : twoB b = true) : leafB b = false := by
  simp only [twoB, Bool.or_eq_true, beq_iff_eq] at h
  rcases h with ((h | h) | h) | h <;> subst h <;> decide
theorem leaf_is {b : Nat} (h : leafB b = true) : b = 48 ∨ b = 49 ∨ b = 112 ∨ b = 113 ∨ b = 114 := by
  simpa [leafB, or_assoc] using h
theorem one_is {b : Nat} (h : oneB b = true) : b = 33 ∨ b = 88 ∨ b = 70 ∨ b = 71 := by
  simpa [oneB, or_assoc] using h
theorem two_is {b : Nat} (h : twoB b = true) : b = 38 ∨ b = 124 ∨ b = 85 ∨ b = 82 := by
  simpa [twoB, or_assoc] using h

/-- The cells of a node, of a list of nodes. -/
def flat (ns : List Nd) : List Value := ns.flatMap fun n => [.int .u8 n.op, .int .i64 n.l, .int .i64 n.r]
theorem flat_snoc (ns : List Nd) (n : Nd) : flat (ns ++ [n]) = flat ns ++ [.int .u8 n.op, .int .i64 n.l, .int .i64 n.r] := by simp [flat]
/-- A formula's text: the error (0: none) and the nodes. -/
def parseOf (s : ByteArray) : Nat × List Nd :=
  if 24 < s.size then (1, []) else
  match ps 25 s 0 [] with
  | none => (2, [])
  | some (a, ns) => if a = s.size then (if 8 < ns.length then (3, []) else (0, ns)) else (2, [])

end Go.Proofs.Ytjagijohfkffiab

/- Plain mathematics: what a formula means at a place of a row of places ('nx': the place behind a place, 'lt': its letter). At nx = (· + 1) it is the document's own. -/
namespace Go.Proofs.Ytjagijohfkffiab

/-- s steps on. -/
def it (nx : Nat → Nat) : Nat → Nat → Nat
  | 0, i => i
  | s + 1, i => it nx s (nx i)

theorem it_succ (nx : Nat → Nat) (s i : Nat) : it nx (s + 1) i = nx (it nx s i) := by
  induction s generalizing i with
  | zero => rfl
  | succ s ih => exact ih (nx i)
theorem it_add (nx : Nat → Nat) (s t i : Nat) : it nx (s + t) i = it nx s (it nx t i) := by
  induction s with
  | zero => simp [it]
  | succ s ih => rw [show s + 1 + t = (s + t) + 1 by omega, it_succ, it_succ, ih]

/-- B some time, and A up to it. -/
def UU (nx : Nat → Nat) (A B : Nat → Prop) (i : Nat) : Prop := ∃ s, B (it nx s i) ∧ ∀ m, m < s → A (it nx m i)

theorem UU_fix (nx : Nat → Nat) (A B : Nat → Prop) (i : Nat) : UU nx A B i ↔ B i ∨ (A i ∧ UU nx A B (nx i)) := by
  constructor
  · rintro ⟨s, hb, ha⟩
    cases s with
    | zero => exact Or.inl hb
    | succ s => exact Or.inr ⟨ha 0 (by omega), s, hb, fun m hm => ha (m + 1) (by omega)⟩
  · rintro (hb | ⟨ha, s, hb, h⟩)
    · exact ⟨0, hb, fun m hm => by omega⟩
    · refine ⟨s + 1, hb, fun m hm => ?_⟩
      cases m with
      | zero => exact ha
      | succ m => exact h m (by omega)

/-- What a node means, by what the nodes listed ahead of it mean. -/
def den (nx lt : Nat → Nat) (n : Nd) (rs : List (Nat → Prop)) (i : Nat) : Prop :=
  if n.op = 49 then True
  else if n.op = 112 then (lt i).testBit 0 = true
  else if n.op = 113 then (lt i).testBit 1 = true
  else if n.op = 114 then (lt i).testBit 2 = true
  else if n.op = 33 then ¬ rs.getD n.l (fun _ => False) i
  else if n.op = 88 then rs.getD n.l (fun _ => False) (nx i)
  else if n.op = 70 then ∃ s, rs.getD n.l (fun _ => False) (it nx s i)
  else if n.op = 71 then ∀ s, rs.getD n.l (fun _ => False) (it nx s i)
  else if n.op = 38 then rs.getD n.l (fun _ => False) i ∧ rs.getD n.r (fun _ => False) i
  else if n.op = 124 then rs.getD n.l (fun _ => False) i ∨ rs.getD n.r (fun _ => False) i
  else if n.op = 85 then ∃ s, rs.getD n.r (fun _ => False) (it nx s i) ∧ ∀ m, m < s → rs.getD n.l (fun _ => False) (it nx m i)
  else if n.op = 82 then ∀ s, rs.getD n.r (fun _ => False) (it nx s i) ∨ ∃ m, m < s ∧ rs.getD n.l (fun _ => False) (it nx m i)
  else False

def rows (nx lt : Nat → Nat) (ns : List Nd) : List (Nat → Prop) := ns.foldl (fun rs n => rs ++ [den nx lt n rs]) []

theorem rows_snoc (nx lt : Nat → Nat) (ns : List Nd) (n : Nd) : rows nx lt (ns ++ [n]) = rows nx lt ns ++ [den nx lt n (rows nx lt ns)] := by
  simp [rows]
theorem foldl_len (nx lt : Nat → Nat) (ns : List Nd) : ∀ rs : List (Nat → Prop), (ns.foldl (fun rs n => rs ++ [den nx lt n rs]) rs).length = rs.length + ns.length := by
  induction ns with
  | nil => intro rs; rfl
  | cons n ns ih => intro rs; simp only [List.foldl_cons, List.length_cons]; rw [ih]; simp; omega
theorem rows_len (nx lt : Nat → Nat) (ns : List Nd) : (rows nx lt ns).length = ns.length := by
  unfold rows; rw [foldl_len]; simp

/-- Node k holds at place i. -/
def sem (nx lt : Nat → Nat) (ns : List Nd) (k i : Nat) : Prop := (rows nx lt ns).getD k (fun _ => False) i

theorem sem_old {nx lt : Nat → Nat} {ns : List Nd} {n : Nd} {k : Nat} (h : k < ns.length) (i : Nat) : sem nx lt (ns ++ [n]) k i = sem nx lt ns k i := by
  unfold sem
  rw [rows_snoc, List.getD, List.getD, List.getElem?_append_left (by rw [rows_len]; exact h)]
theorem sem_new (nx lt : Nat → Nat) (ns : List Nd) (n : Nd) (i : Nat) : sem nx lt (ns ++ [n]) ns.length i = den nx lt n (rows nx lt ns) i := by
  unfold sem
  rw [rows_snoc, List.getD, List.getElem?_append_right (by rw [rows_len]; exact Nat.le_refl _), rows_len]
  simp

theorem foldl_pre (nx lt : Nat → Nat) (ms : List Nd) : ∀ rs : List (Nat → Prop), ∀ k, k < rs.length → (ms.foldl (fun rs n => rs ++ [den nx lt n rs]) rs).getD k (fun _ => False) = rs.getD k (fun _ => False) := by
  induction ms with
  | nil => intro rs k _; rfl
  | cons n ms ih =>
    intro rs k hk
    simp only [List.foldl_cons]
    rw [ih _ k (by simp; omega)]
    simp [List.getD, List.getElem?_append_left hk]
theorem sem_pre {nx lt : Nat → Nat} {ns ms : List Nd} {k : Nat} (h : k < ns.length) (i : Nat) : sem nx lt (ns ++ ms) k i = sem nx lt ns k i := by
  unfold sem rows
  rw [List.foldl_append, foldl_pre _ _ _ _ _ (by rw [foldl_len]; simpa using h)]

/-- What a node means hangs on the rows below it alone. -/
theorem den_congr {nx1 lt1 nx2 lt2 : Nat → Nat} {f : Nat → Nat} (hn : ∀ i, f (nx1 i) = nx2 (f i)) (hl : ∀ i, lt1 i = lt2 (f i)) {n : Nd} {r1 r2 : List (Nat → Prop)}
    (hr : ∀ k i, r1.getD k (fun _ => False) i ↔ r2.getD k (fun _ => False) (f i)) (i : Nat) : den nx1 lt1 n r1 i ↔ den nx2 lt2 n r2 (f i) := by
  have hit : ∀ s i, f (it nx1 s i) = it nx2 s (f i) := by
    intro s
    induction s with
    | zero => intro i; rfl
    | succ s ih => intro i; simp only [it]; rw [ih, hn]
  unfold den
  simp only [hl, hr, hn, hit]

theorem sem_map {nx1 lt1 nx2 lt2 : Nat → Nat} {f : Nat → Nat} (hn : ∀ i, f (nx1 i) = nx2 (f i)) (hl : ∀ i, lt1 i = lt2 (f i)) (ns : List Nd) (k i : Nat) : sem nx1 lt1 ns k i ↔ sem nx2 lt2 ns k (f i) := by
  have key : ∀ ms : List Nd, ∀ r1 r2 : List (Nat → Prop), (r1.length = r2.length) → (∀ k i, r1.getD k (fun _ => False) i ↔ r2.getD k (fun _ => False) (f i)) →
      ∀ k i, (ms.foldl (fun rs n => rs ++ [den nx1 lt1 n rs]) r1).getD k (fun _ => False) i ↔ (ms.foldl (fun rs n => rs ++ [den nx2 lt2 n rs]) r2).getD k (fun _ => False) (f i) := by
    intro ms
    induction ms with
    | nil => intro r1 r2 _ hr; exact hr
    | cons n ms ih =>
      intro r1 r2 hlen hr
      simp only [List.foldl_cons]
      refine ih _ _ (by simp [hlen]) ?_
      intro k i
      by_cases hk : k < r1.length
      · simp only [List.getD, List.getElem?_append_left hk, List.getElem?_append_left (show k < r2.length by omega)]
        exact hr k i
      · simp only [List.getD, List.getElem?_append_right (show r1.length ≤ k by omega), List.getElem?_append_right (show r2.length ≤ k by omega), hlen]
        cases hk0 : k - r2.length with
        | zero => simpa using den_congr hn hl hr i
        | succ j => simp
  exact key ns [] [] rfl (fun k i => by simp) k i

/-- The places of a stem and a loop: behind the last of n comes 'back'. -/
def lnx (n back i : Nat) : Nat := if i + 1 < n then i + 1 else back

theorem lnx_lt {n back i : Nat} (hb : back < n) : lnx n back i < n := by unfold lnx; split <;> omega

theorem it_lt {n back : Nat} (hb : back < n) : ∀ s i, i < n → it (lnx n back) s i < n := by
  intro s
  induction s with
  | zero => intro i h; exact h
  | succ s ih => intro i h; exact ih _ (lnx_lt hb)

/-- Straight on as long as the end is not reached. -/
theorem it_straight {n back : Nat} : ∀ s i, i + s < n → it (lnx n back) s i = i + s := by
  intro s
  induction s with
  | zero => intro i _; rfl
  | succ s ih =>
    intro i h
    simp only [it]
    rw [show lnx n back i = i + 1 by unfold lnx; rw [if_pos (by omega)], ih (i + 1) (by omega)]
    omega
/-- From i on, so many steps lead to 'back'. -/
theorem it_back {n back i : Nat} (hi : i < n) : it (lnx n back) (n - i) i = back := by
  rw [show n - i = (n - 1 - i) + 1 by omega, it_succ, it_straight _ _ (by omega)]
  unfold lnx
  rw [if_neg (by omega)]
/-- Once round the loop. -/
theorem it_round {n back j : Nat} (hb : back < n) (hj : back ≤ j) (hn : j < n) : it (lnx n back) (n - back) j = j := by
  rw [show n - back = (j - back) + (n - j) by omega, it_add, it_back hn, it_straight _ _ (by omega)]
  omega
/-- Two sweeps settle what comes some time. -/
theorem sweep_until {n back : Nat} (hb : back < n) (A B : Nat → Bool) (x1 x2 : Nat → Bool)
    (h1 : ∀ i, i < n → x1 i = (B i || (A i && (if i + 1 < n then x1 (i + 1) else false)))) (h2 : ∀ i, i < n → x2 i = (B i || (A i && (if i + 1 < n then x2 (i + 1) else x1 back)))) (i : Nat) (hi : i < n) :
    x2 i = true ↔ UU (lnx n back) (fun i => A i = true) (fun i => B i = true) i := by
  have fx := UU_fix (lnx n back) (fun i => A i = true) (fun i => B i = true)
  -- sound
  have s1 : ∀ d i, i + d + 1 = n → x1 i = true → UU (lnx n back) (fun i => A i = true) (fun i => B i = true) i := by
    intro d
    induction d with
    | zero =>
      intro i hd hx
      rw [h1 i (by omega), if_neg (by omega)] at hx
      rw [fx]; simp at hx; exact Or.inl hx
    | succ d ih =>
      intro i hd hx
      rw [h1 i (by omega), if_pos (by omega)] at hx
      rw [fx]
      simp only [Bool.or_eq_true, Bool.and_eq_true] at hx
      rcases hx with hx | ⟨ha, hx⟩
      · exact Or.inl hx
      · refine Or.inr ⟨ha, ?_⟩
        rw [show lnx n back i = i + 1 by unfold lnx; rw [if_pos (by omega)]]
        exact ih (i + 1) (by omega) hx
  -- what comes before the end is seen by the first sweep
  have c1 : ∀ s i, i + s < n → B (i + s) = true → (∀ m, m < s → A (i + m) = true) → x1 i = true := by
    intro s
    induction s with
    | zero => intro i hi hB _; rw [h1 i (by omega)]; simp at hB; simp [hB]
    | succ s ih =>
      intro i hi hB hA
      rw [h1 i (by omega), if_pos (by omega)]
      have := ih (i + 1) (by omega) (by rw [show i + 1 + s = i + (s + 1) by omega]; exact hB) (fun m hm => by rw [show i + 1 + m = i + (m + 1) by omega]; exact hA (m + 1) (by omega))
      have ha := hA 0 (by omega)
      simp only [Nat.add_zero] at ha
      simp [this, ha]
  have b1 : x1 back = true ↔ UU (lnx n back) (fun i => A i = true) (fun i => B i = true) back := by
    constructor
    · exact s1 (n - 1 - back) back (by omega)
    · rintro ⟨s, hB, hA⟩
      induction s using Nat.strongRecOn with
      | _ s ih =>
        by_cases hs : s < n - back
        · rw [it_straight s back (by omega)] at hB
          exact c1 s back (by omega) hB (fun m hm => by have := hA m hm; rw [it_straight m back (by omega)] at this; exact this)
        · refine ih (s - (n - back)) (by omega) ?_ (fun m hm => hA m (by omega))
          have h3 := it_round hb (Nat.le_refl back) hb
          rw [show s = (s - (n - back)) + (n - back) by omega, it_add, h3] at hB
          exact hB
  have s2 : ∀ d i, i + d + 1 = n → (x2 i = true ↔ UU (lnx n back) (fun i => A i = true) (fun i => B i = true) i) := by
    intro d
    induction d with
    | zero =>
      intro i hd
      rw [h2 i (by omega), if_neg (by omega), fx, show lnx n back i = back by unfold lnx; rw [if_neg (by omega)], ← b1]
      simp
    | succ d ih =>
      intro i hd
      rw [h2 i (by omega), if_pos (by omega), fx, show lnx n back i = i + 1 by unfold lnx; rw [if_pos (by omega)], ← ih (i + 1) (by omega)]
      simp
  exact s2 (n - 1 - i) i (by omega)

end Go.Proofs.Ytjagijohfkffiab

/- The walks of the program's reader: take, add, joins. -/
namespace Go.Proofs.Ytjagijohfkffiab
open Go.RowKit
set_option linter.unusedVariables false

theorem Try.infoNode : (Try.prog.info? 124).map (fun i => (i.zero, i.size, i.bytes)) = some (some (.agg #[.int .u8 0, .int .i64 0, .int .i64 0]), 3, 24) := by kernel_rfl

theorem hid {p : Prop} (h : p) : Hid p := h

theorem cell_three_new (w : World) (a b c : Value) (t : TypeId) : ∀ j u, [a, b, c][j]? = some u → (w.alloc (.cells #[a, b, c] t)).cell? ((⟨w.heap.size, 0, none⟩ : Addr).add j) = some u := by
  intro j u hj
  match j, hj with
  | 0, hj => simp at hj; subst hj; simp [Addr.add]
  | 1, hj => simp at hj; subst hj; simp [Addr.add]
  | 2, hj => simp at hj; subst hj; simp [Addr.add]
  | j + 3, hj => simp at hj

theorem own_mono {w : World} {B B' : Nat} {e : TypeId} {size : Nat} {v : Value} {n : Nat} {xs : List Value} (h : w.ownsRow B e size v n xs) (hb : B' ≤ B) : w.ownsRow B' e size v n xs := by
  obtain ⟨h1, h2⟩ := h
  rcases h2 with h2 | ⟨g, cap, cur, a, b, r⟩
  · exact ⟨h1, Or.inl h2⟩
  · exact ⟨h1, Or.inr ⟨g, cap, cur, a, Nat.le_trans hb b, r⟩⟩

/-- The reader at block R: text s, place a, nodes ns; the nodes' row lies behind R. -/
structure Rd (w : World) (R : Nat) (s : ByteArray) (a : Nat) (ns : List Nd) : Prop where
  c0 : w.cell? ⟨R, 0, none⟩ = some (.string s)
  c1 : w.cell? ⟨R, 1, none⟩ = some (.int .i64 a)
  c2 : ∃ ao cap, w.cell? ⟨R, 2, none⟩ = some (.slice ao ns.length cap) ∧ w.ownsRow (R + 1) 124 3 (.slice ao ns.length cap) ns.length (flat ns)
  f1 : w.frozen? ⟨R, 1, none⟩ = false
  f2 : w.frozen? ⟨R, 2, none⟩ = false

theorem Rd.lt {w : World} {R : Nat} {s : ByteArray} {a : Nat} {ns : List Nd} (h : Rd w R s a ns) : R < w.heap.size := World.block_lt_of_cell? w ⟨R, 0, none⟩ h.c0

theorem Rd.drewN {w : World} {R : Nat} {s : ByteArray} {a : Nat} {ns : List Nd} (h : Rd w R s a ns) (m : Nat) : Rd (w.drewN m) R s a ns :=
  ⟨h.c0, h.c1, h.c2, h.f1, h.f2⟩

/-- The place is moved on. -/
theorem Rd.moved {w : World} {R : Nat} {s : ByteArray} {a : Nat} {ns : List Nd} (h : Rd w R s a ns) (b : Nat) : Rd (w.setCell ⟨R, 1, none⟩ (.int .i64 b)) R s b ns := by
  obtain ⟨ao, cap, hc, ho⟩ := h.c2
  refine ⟨?_, ?_, ⟨ao, cap, ?_, ?_⟩, ?_, ?_⟩
  · rw [World.cell?_setCell_other _ _ _ _ (by simp)]; exact h.c0
  · exact World.cell?_setCell_same _ _ _ h.c1
  · rw [World.cell?_setCell_other _ _ _ _ (by simp)]; exact hc
  · exact ownsRow_setCell_below ho (by simp) _
  · rw [World.frozen?_setCell]; exact h.f1
  · rw [World.frozen?_setCell]; exact h.f2

/-- The nodes' row has grown, the value is stored. -/
theorem Rd.pushed {w w' : World} {R : Nat} {s : ByteArray} {a : Nat} {ns : List Nd} (h : Rd w R s a ns) (hb : Below (R + 1) w w') (ms : List Nd) (ao : Option Addr) (cap : Nat)
    (ho : w'.ownsRow (R + 1) 124 3 (.slice ao ms.length cap) ms.length (flat ms)) : Rd (w'.setCell ⟨R, 2, none⟩ (.slice ao ms.length cap)) R s a ms := by
  have hR : R < R + 1 := Nat.lt_succ_self _
  obtain ⟨_, _, hc, _⟩ := h.c2
  refine ⟨?_, ?_, ⟨ao, cap, ?_, ?_⟩, ?_, ?_⟩
  · rw [World.cell?_setCell_other _ _ _ _ (by simp), hb.cell hR]; exact h.c0
  · rw [World.cell?_setCell_other _ _ _ _ (by simp), hb.cell hR]; exact h.c1
  · exact World.cell?_setCell_same _ _ _ ((hb.cell (p := ⟨R, 2, none⟩) hR).trans hc)
  · exact ownsRow_setCell_below ho (by simp) _
  · rw [World.frozen?_setCell, hb.frozen hR]; exact h.f1
  · rw [World.frozen?_setCell, hb.frozen hR]; exact h.f2

set_option maxHeartbeats 400000 in
theorem take_in (R a : Nat) (s : ByteArray) (ns : List Nd) (w : World) (hs : s.size ≤ 24) (hlt : a < s.size) (hr : Rd w R s a ns) :
    Calls Try.prog 100 #[.pointer (some ⟨R, 0, none⟩)] w fun e w' => e = .returned (.int .u8 (bt s a)) ∧ Rd w' R s (a + 1) ns ∧ Below R w w' := by
  have c0 := hr.c0
  have c1 := hr.c1
  have f1 := hr.f1
  have hd : decide ((a : Int) < 0) = false := by simp
  have hd2 : decide ((s.size : Int) ≤ (a : Int)) = false := by simp; omega
  go_enter Try.func100, Try.ntmps100
  go_wp2
  go_quiet (fail)
  go_wp2
  go_quiet (fail)
  go_wp2
  go_ret
  refine ⟨by rw [bt_in hlt]; rfl, ?_, ?_⟩
  · exact (hr.drewN _).moved (a + 1)
  · exact (below_drewN (Below.refl R w) _).setCell (p := ⟨R, 1, none⟩) (Nat.le_refl _) _

set_option maxHeartbeats 400000 in
theorem take_out (R a : Nat) (s : ByteArray) (ns : List Nd) (w : World) (hs : s.size ≤ 24) (hlt : ¬ a < s.size) (ha : a ≤ s.size) (hr : Rd w R s a ns) :
    Calls Try.prog 100 #[.pointer (some ⟨R, 0, none⟩)] w fun e w' => e = .returned (.int .u8 (bt s a)) ∧ Rd w' R s a ns ∧ Below R w w' := by
  have c0 := hr.c0
  have c1 := hr.c1
  have f1 := hr.f1
  have hd : decide ((a : Int) < 0) = false := by simp
  have hd2 : decide ((s.size : Int) ≤ (a : Int)) = true := by simp; omega
  go_enter Try.func100, Try.ntmps100
  go_wp2
  go_quiet (fail)
  go_wp2
  go_ret
  refine ⟨by rw [bt_out hlt]; rfl, hr.drewN _, below_drewN (Below.refl _ _) _⟩

/-- The place behind a byte that was asked for. -/
def nxt (s : ByteArray) (a : Nat) : Nat := if a < s.size then a + 1 else a

theorem take_any (R a : Nat) (s : ByteArray) (ns : List Nd) (w : World) (hs : s.size ≤ 24) (ha : a ≤ s.size) (hr : Rd w R s a ns) :
    Calls Try.prog 100 #[.pointer (some ⟨R, 0, none⟩)] w fun e w' => e = .returned (.int .u8 (bt s a)) ∧ Rd w' R s (nxt s a) ns ∧ Below R w w' := by
  unfold nxt
  by_cases h : a < s.size
  · rw [if_pos h]; exact take_in R a s ns w hs h hr
  · rw [if_neg h]; exact take_out R a s ns w hs h ha hr

set_option maxHeartbeats 400000 in
set_option maxRecDepth 100000 in
theorem add_any (R a : Nat) (op l r : Int) (s : ByteArray) (ns : List Nd) (w : World) (hn : ns.length ≤ 1000) (ho : 0 ≤ op) (hl : 0 ≤ l) (hr0 : 0 ≤ r) (hr : Rd w R s a ns) :
    Calls Try.prog 101 #[.pointer (some ⟨R, 0, none⟩), .int .u8 op, .int .i64 l, .int .i64 r] w fun e w' => e = .returned (.tuple #[]) ∧ Rd w' R s a (ns ++ [⟨op.toNat, l.toNat, r.toNat⟩]) ∧ Below R w w' := by
  obtain ⟨on, rfl⟩ := Int.eq_ofNat_of_zero_le ho
  obtain ⟨ln, rfl⟩ := Int.eq_ofNat_of_zero_le hl
  obtain ⟨rn, rfl⟩ := Int.eq_ofNat_of_zero_le hr0
  simp only [Int.toNat_natCast]
  obtain ⟨ao, cap, c2, own⟩ := hr.c2
  have f2 := hr.f2
  have hR := hr.lt
  obtain ⟨i0, hi, hz0, hz1, hz2⟩ := info_parts Try.infoNode
  go_enter Try.func101, Try.ntmps101
  go_wp2_with (at_builtin; refine wpList_append_own _ rfl (.tmp 12) (.tmp 17) 60 rfl (R + 1) 124 i0 (.agg #[.int .u8 0, .int .i64 0, .int .i64 0]) 3 24 Try.underlying60 hi hz0 hz1 hz2 rfl (by decide) _ _ _ rfl (own.alloc _) ⟨w.heap.size, 0, none⟩ 1 1 [.int .u8 on, .int .i64 ln, .int .i64 rn] rfl rfl ?c1 ?c2 ?c3 ?c4 ?c5 ?_)
  case c1 => exact cell_three_new _ _ _ _ _
  case c2 => intro u hu; simp at hu; rcases hu with rfl | rfl | rfl <;> rfl
  case c3 => unfold maxLen; omega
  case c4 => omega
  case c5 => simp; omega
  intro v' w1 hown hgrow _
  have hbel : Below (R + 1) w w1 := ((Below.refl _ _).alloc (by omega) _).grown hgrow (by simp; omega) (fun k h => (own.lt k h).1)
  have e1 : ns.length + 1 = (ns ++ [(⟨on, ln, rn⟩ : Nd)]).length := by simp
  have e2 : flat ns ++ [.int .u8 on, .int .i64 ln, .int .i64 rn] = flat (ns ++ [(⟨on, ln, rn⟩ : Nd)]) := (flat_snoc ns ⟨on, ln, rn⟩).symm
  rw [e2, e1] at hown
  obtain ⟨ao', cap', hv⟩ : ∃ ao' cap', v' = .slice ao' (ns ++ [(⟨on, ln, rn⟩ : Nd)]).length cap' := by
    rcases hown.2 with ⟨h, h0⟩ | ⟨g, cap', _, h, _⟩
    · simp at h0
    · exact ⟨_, cap', h⟩
  subst hv
  have P1 := hid (hr.pushed hbel _ ao' cap' hown)
  have k2 := (hbel.cell (p := ⟨R, 2, none⟩) (Nat.lt_succ_self _)).trans c2
  have g2 := (hbel.frozen (p := ⟨R, 2, none⟩) (Nat.lt_succ_self _)).trans f2
  have B1 := hid ((hbel.mono (Nat.le_succ R)).setCell (p := ⟨R, 2, none⟩) (Nat.le_refl _) (.slice ao' (ns ++ [(⟨on, ln, rn⟩ : Nd)]).length cap'))
  clear hown hgrow e1 e2 hbel own c2 f2
  go_wp2
  go_end0
  have q1 := P1.out
  have q2 := B1.out
  rw [List.length_append, List.length_singleton] at q1 q2
  exact ⟨rfl, q1, q2⟩


set_option maxHeartbeats 400000 in
theorem joins_any (b : Nat) (w : World) (hb : b < 256) : Calls Try.prog 125 #[.int .u8 b] w fun e w' => e = .returned (.bool (twoB b)) ∧ w' = w := by
  by_cases h1 : b = 38
  · subst h1
    go_enter Try.func125, Try.ntmps125
    go_wp2
    go_ret
    exact ⟨rfl, rfl⟩
  by_cases h2 : b = 124
  · subst h2
    go_enter Try.func125, Try.ntmps125
    go_wp2
    go_ret
    exact ⟨rfl, rfl⟩
  by_cases h3 : b = 85
  · subst h3
    go_enter Try.func125, Try.ntmps125
    go_wp2
    go_ret
    exact ⟨rfl, rfl⟩
  by_cases h4 : b = 82
  · subst h4
    go_enter Try.func125, Try.ntmps125
    go_wp2
    go_ret
    exact ⟨rfl, rfl⟩
  have k1 : ((b : Int) == 38) = false := beq_eq_false_iff_ne.2 (by omega)
  have k2 : ((b : Int) == 124) = false := beq_eq_false_iff_ne.2 (by omega)
  have k3 : ((b : Int) == 85) = false := beq_eq_false_iff_ne.2 (by omega)
  have k4 : ((b : Int) == 82) = false := beq_eq_false_iff_ne.2 (by omega)
  have k5 : twoB b = false := by
    cases e : twoB b with
    | false => rfl
    | true => have := two_is e; omega
  go_enter Try.func125, Try.ntmps125
  go_wp2
  go_ret
  rw [k5]
  exact ⟨rfl, rfl⟩

end Go.Proofs.Ytjagijohfkffiab

/- Sets of nodes as ints: Has, With. -/
namespace Go.Proofs.Ytjagijohfkffiab
open Go.RowKit
set_option linter.unusedVariables false

/-- The set with node k in it, or without it. -/
def wth (S k : Nat) (b : Bool) : Nat := if b then S ||| 2 ^ k else S - (if S.testBit k then 2 ^ k else 0)

theorem has_fin : ∀ S : Fin 256, ∀ k : Fin 8, (bits BinOp.and IntKind.i64 ((S.val : Int) / 2 ^ k.val) 1 == 1) = S.val.testBit k.val := by decide +kernel
theorem wth_t_fin : ∀ S : Fin 256, ∀ k : Fin 8, bits BinOp.or IntKind.i64 (S.val : Int) (2 ^ k.val) = ((wth S.val k.val true : Nat) : Int) := by decide +kernel
theorem wth_f_fin : ∀ S : Fin 256, ∀ k : Fin 8, bits BinOp.andNot IntKind.i64 (S.val : Int) (2 ^ k.val) = ((wth S.val k.val false : Nat) : Int) := by decide +kernel
theorem wth_lt_fin : ∀ S : Fin 256, ∀ k : Fin 8, ∀ b : Bool, wth S.val k.val b < 256 := by decide +kernel
theorem wth_bit_fin : ∀ S : Fin 256, ∀ k : Fin 8, ∀ j : Fin 8, ∀ b : Bool, (wth S.val k.val b).testBit j.val = if j.val = k.val then b else S.val.testBit j.val := by decide +kernel

theorem wth_lt {S k : Nat} {b : Bool} (hS : S < 256) (hk : k < 8) : wth S k b < 256 := wth_lt_fin ⟨S, hS⟩ ⟨k, hk⟩ b
theorem wth_bit {S k j : Nat} {b : Bool} (hS : S < 256) (hk : k < 8) (hj : j < 8) : (wth S k b).testBit j = if j = k then b else S.testBit j := wth_bit_fin ⟨S, hS⟩ ⟨k, hk⟩ ⟨j, hj⟩ b
theorem pow_wrap {k : Nat} (hk : k < 8) : wrap64 (2 ^ k) = 2 ^ k := by
  have : (2 : Int) ^ k ≤ 128 ∧ 0 ≤ (2 : Int) ^ k := by
    have h : ∀ k : Fin 8, (2 : Int) ^ k.val ≤ 128 ∧ 0 ≤ (2 : Int) ^ k.val := by decide
    exact h ⟨k, hk⟩
  exact IntWalk.wrap64_in _ ⟨by omega, by omega⟩

theorem ret_bool {a b : Bool} (h : a = b) : Ending.returned (.bool a) = .returned (.bool b) := by rw [h]
theorem ret_int {k : IntKind} {a b : Int} (h : a = b) : Ending.returned (.int k a) = .returned (.int k b) := by rw [h]

set_option maxHeartbeats 400000 in
theorem has_any (S k : Nat) (w : World) (hS : S < 256) (hk : k < 8) : Calls Try.prog 68 #[.int .i64 S, .int .i64 k] w fun e w' => e = .returned (.bool (S.testBit k)) ∧ w' = w := by
  have H := hid (has_fin ⟨S, hS⟩ ⟨k, hk⟩)
  go_enter Try.func68, Try.ntmps68
  go_wp2
  go_ret
  exact ⟨ret_bool H.out, rfl⟩

set_option maxHeartbeats 400000 in
theorem with_any (S k : Nat) (b : Bool) (w : World) (hS : S < 256) (hk : k < 8) : Calls Try.prog 105 #[.int .i64 S, .int .i64 k, .bool b] w fun e w' => e = .returned (.int .i64 (wth S k b : Nat)) ∧ w' = w := by
  have HT : Hid (bits BinOp.or IntKind.i64 (S : Int) (wrap64 (2 ^ k)) = ((wth S k true : Nat) : Int)) := hid (by rw [pow_wrap hk]; exact wth_t_fin ⟨S, hS⟩ ⟨k, hk⟩)
  have HF : Hid (bits BinOp.andNot IntKind.i64 (S : Int) (wrap64 (2 ^ k)) = ((wth S k false : Nat) : Int)) := hid (by rw [pow_wrap hk]; exact wth_f_fin ⟨S, hS⟩ ⟨k, hk⟩)
  cases b with
  | true =>
    go_enter Try.func105, Try.ntmps105
    go_wp2
    go_ret
    exact ⟨ret_int HT.out, rfl⟩
  | false =>
    go_enter Try.func105, Try.ntmps105
    go_wp2
    go_ret
    exact ⟨ret_int HF.out, rfl⟩

end Go.Proofs.Ytjagijohfkffiab
