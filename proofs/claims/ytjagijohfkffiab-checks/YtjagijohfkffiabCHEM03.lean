import Derived.Test.YtjagijohfkffiabCHEM01
import Derived.WalkLawsBesides

/- Plain mathematics: what a formula means at a place of a row of places ('nx': the place behind a place, 'lt': its letter). At nx = (· + 1) it is the document's own. -/
namespace Go.Proofs.Ytjagijohfkffiab

/-- s steps on. -/
def it (nx : Nat → Nat) : Nat → Nat → Nat
  | 0, i => i
  | s + 1, i => it nx s (nx i)

theorem it_succ (nx : Nat → Nat) (s i : Nat) : it nx (s + 1) i = nx (it nx s i) := by
  induction s generalizing i with
  | zero => rfl
  | succ s ih => exact ih (nx i)
theorem it_add (nx : Nat → Nat) (s t i : Nat) : it nx (s + t) i = it nx s (it nx t i) := by
  induction s with
  | zero => simp [it]
  | succ s ih => rw [show s + 1 + t = (s + t) + 1 by omega, it_succ, it_succ, ih]

/-- B some time, and A up to it. -/
def UU (nx : Nat → Nat) (A B : Nat → Prop) (i : Nat) : Prop := ∃ s, B (it nx s i) ∧ ∀ m, m < s → A (it nx m i)

theorem UU_fix (nx : Nat → Nat) (A B : Nat → Prop) (i : Nat) : UU nx A B i ↔ B i ∨ (A i ∧ UU nx A B (nx i)) := by
  constructor
  · rintro ⟨s, hb, ha⟩
    cases s with
    | zero => exact Or.inl hb
    | succ s => exact Or.inr ⟨ha 0 (by omega), s, hb, fun m hm => ha (m + 1) (by omega)⟩
  · rintro (hb | ⟨ha, s, hb, h⟩)
    · exact ⟨0, hb, fun m hm => by omega⟩
    · refine ⟨s + 1, hb, fun m hm => ?_⟩
      cases m with
      | zero => exact ha
      | succ m => exact h m (by omega)

/-- What a node means, by what the nodes listed ahead of it mean. -/
def den (nx lt : Nat → Nat) (n : Nd) (rs : List (Nat → Prop)) (i : Nat) : Prop :=
  if n.op = 49 then True
  else if n.op = 112 then (lt i).testBit 0 = true
  else if n.op = 113 then (lt i).testBit 1 = true
  else if n.op = 114 then (lt i).testBit 2 = true
  else if n.op = 33 then ¬ rs.getD n.l (fun _ => False) i
  else if n.op = 88 then rs.getD n.l (fun _ => False) (nx i)
  else if n.op = 70 then ∃ s, rs.getD n.l (fun _ => False) (it nx s i)
  else if n.op = 71 then ∀ s, rs.getD n.l (fun _ => False) (it nx s i)
  else if n.op = 38 then rs.getD n.l (fun _ => False) i ∧ rs.getD n.r (fun _ => False) i
  else if n.op = 124 then rs.getD n.l (fun _ => False) i ∨ rs.getD n.r (fun _ => False) i
  else if n.op = 85 then ∃ s, rs.getD n.r (fun _ => False) (it nx s i) ∧ ∀ m, m < s → rs.getD n.l (fun _ => False) (it nx m i)
  else if n.op = 82 then ∀ s, rs.getD n.r (fun _ => False) (it nx s i) ∨ ∃ m, m < s ∧ rs.getD n.l (fun _ => False) (it nx m i)
  else False

def rows (nx lt : Nat → Nat) (ns : List Nd) : List (Nat → Prop) := ns.foldl (fun rs n => rs ++ [den nx lt n rs]) []

theorem rows_snoc (nx lt : Nat → Nat) (ns : List Nd) (n : Nd) : rows nx lt (ns ++ [n]) = rows nx lt ns ++ [den nx lt n (rows nx lt ns)] := by
  simp [rows]
theorem foldl_len (nx lt : Nat → Nat) (ns : List Nd) : ∀ rs : List (Nat → Prop), (ns.foldl (fun rs n => rs ++ [den nx lt n rs]) rs).length = rs.length + ns.length := by
  induction ns with
  | nil => intro rs; rfl
  | cons n ns ih => intro rs; simp only [List.foldl_cons, List.length_cons]; rw [ih]; simp; omega
theorem rows_len (nx lt : Nat → Nat) (ns : List Nd) : (rows nx lt ns).length = ns.length := by
  unfold rows; rw [foldl_len]; simp

/-- Node k holds at place i. -/
def sem (nx lt : Nat → Nat) (ns : List Nd) (k i : Nat) : Prop := (rows nx lt ns).getD k (fun _ => False) i

theorem sem_old {nx lt : Nat → Nat} {ns : List Nd} {n : Nd} {k : Nat} (h : k < ns.length) (i : Nat) : sem nx lt (ns ++ [n]) k i = sem nx lt ns k i := by
  unfold sem
  rw [rows_snoc, List.getD, List.getD, List.getElem?_append_left (by rw [rows_len]; exact h)]
theorem sem_new (nx lt : Nat → Nat) (ns : List Nd) (n : Nd) (i : Nat) : sem nx lt (ns ++ [n]) ns.length i = den nx lt n (rows nx lt ns) i := by
  unfold sem
  rw [rows_snoc, List.getD, List.getElem?_append_right (by rw [rows_len]; exact Nat.le_refl _), rows_len]
  simp

theorem foldl_pre (nx lt : Nat → Nat) (ms : List Nd) : ∀ rs : List (Nat → Prop), ∀ k, k < rs.length → (ms.foldl (fun rs n => rs ++ [den nx lt n rs]) rs).getD k (fun _ => False) = rs.getD k (fun _ => False) := by
  induction ms with
  | nil => intro rs k _; rfl
  | cons n ms ih =>
    intro rs k hk
    simp only [List.foldl_cons]
    rw [ih _ k (by simp; omega)]
    simp [List.getD, List.getElem?_append_left hk]
theorem sem_pre {nx lt : Nat → Nat} {ns ms : List Nd} {k : Nat} (h : k < ns.length) (i : Nat) : sem nx lt (ns ++ ms) k i = sem nx lt ns k i := by
  unfold sem rows
  rw [List.foldl_append, foldl_pre _ _ _ _ _ (by rw [foldl_len]; simpa using h)]

/-- What a node means hangs on the rows below it alone. -/
theorem den_congr {nx1 lt1 nx2 lt2 : Nat → Nat} {f : Nat → Nat} (hn : ∀ i, f (nx1 i) = nx2 (f i)) (hl : ∀ i, lt1 i = lt2 (f i)) {n : Nd} {r1 r2 : List (Nat → Prop)}
    (hr : ∀ k i, r1.getD k (fun _ => False) i ↔ r2.getD k (fun _ => False) (f i)) (i : Nat) : den nx1 lt1 n r1 i ↔ den nx2 lt2 n r2 (f i) := by
  have hit : ∀ s i, f (it nx1 s i) = it nx2 s (f i) := by
    intro s
    induction s with
    | zero => intro i; rfl
    | succ s ih => intro i; simp only [it]; rw [ih, hn]
  unfold den
  simp only [hl, hr, hn, hit]

theorem sem_map {nx1 lt1 nx2 lt2 : Nat → Nat} {f : Nat → Nat} (hn : ∀ i, f (nx1 i) = nx2 (f i)) (hl : ∀ i, lt1 i = lt2 (f i)) (ns : List Nd) (k i : Nat) : sem nx1 lt1 ns k i ↔ sem nx2 lt2 ns k (f i) := by
  have key : ∀ ms : List Nd, ∀ r1 r2 : List (Nat → Prop), (r1.length = r2.length) → (∀ k i, r1.getD k (fun _ => False) i ↔ r2.getD k (fun _ => False) (f i)) →
      ∀ k i, (ms.foldl (fun rs n => rs ++ [den nx1 lt1 n rs]) r1).getD k (fun _ => False) i ↔ (ms.foldl (fun rs n => rs ++ [den nx2 lt2 n rs]) r2).getD k (fun _ => False) (f i) := by
    intro ms
    induction ms with
    | nil => intro r1 r2 _ hr; exact hr
    | cons n ms ih =>
      intro r1 r2 hlen hr
      simp only [List.foldl_cons]
      refine ih _ _ (by simp [hlen]) ?_
      intro k i
      by_cases hk : k < r1.length
      · simp only [List.getD, List.getElem?_append_left hk, List.getElem?_append_left (show k < r2.length by omega)]
        exact hr k i
      · simp only [List.getD, List.getElem?_append_right (show r1.length ≤ k by omega), List.getElem?_append_right (show r2.length ≤ k by omega), hlen]
        cases hk0 : k - r2.length with
        | zero => simpa using den_congr hn hl hr i
        | succ j => simp
  exact key ns [] [] rfl (fun k i => by simp) k i

/-- The places of a stem and a loop: behind the last of n comes 'back'. -/
def lnx (n back i : Nat) : Nat := if i + 1 < n then i + 1 else back

theorem lnx_lt {n back i : Nat} (hb : back < n) : lnx n back i < n := by unfold lnx; split <;> omega

theorem it_lt {n back : Nat} (hb : back < n) : ∀ s i, i < n → it (lnx n back) s i < n := by
  intro s
  induction s with
  | zero => intro i h; exact h
  | succ s ih => intro i h; exact ih _ (lnx_lt hb)

/-- Straight on as long as the end is not reached. -/
theorem it_straight {n back : Nat} : ∀ s i, i + s < n → it (lnx n back) s i = i + s := by
  intro s
  induction s with
  | zero => intro i _; rfl
  | succ s ih =>
    intro i h
    simp only [it]
    rw [show lnx n back i = i + 1 by unfold lnx; rw [if_pos (by omega)], ih (i + 1) (by omega)]
    omega
/-- From i on, so many steps lead to 'back'. -/
theorem it_back {n back i : Nat} (hi : i < n) : it (lnx n back) (n - i) i = back := by
  rw [show n - i = (n - 1 - i) + 1 by omega, it_succ, it_straight _ _ (by omega)]
  unfold lnx
  rw [if_neg (by omega)]
/-- Once round the loop. -/
theorem it_round {n back j : Nat} (hb : back < n) (hj : back ≤ j) (hn : j < n) : it (lnx n back) (n - back) j = j := by
  rw [show n - back = (j - back) + (n - j) by omega, it_add, it_back hn, it_straight _ _ (by omega)]
  omega
/-- Within the loop one stays. -/
theorem it_in {n back : Nat} (hb : back < n) : ∀ s i, i < n → back ≤ i + s → back ≤ it (lnx n back) s i := by
  intro s
  induction s with
  | zero => intro i _ h; exact h
  | succ s ih =>
    intro i hi h
    rw [it_succ]
    by_cases hc : back ≤ i + s
    · have key : ∀ y, back ≤ y → back ≤ lnx n back y := by intro y h; unfold lnx; split <;> omega
      exact key _ (ih i hi hc)
    · rw [it_straight s i (by omega)]
      unfold lnx
      split <;> omega

/-- What comes some time comes within n steps. -/
theorem UU_near {n back : Nat} (hb : back < n) {A B : Nat → Prop} {i : Nat} (hi : i < n) (h : UU (lnx n back) A B i) : ∃ s, s < n ∧ B (it (lnx n back) s i) ∧ ∀ m, m < s → A (it (lnx n back) m i) := by
  obtain ⟨s, h1, h2⟩ := h
  induction s using Nat.strongRecOn with
  | _ s ih =>
    by_cases hs : s < n
    · exact ⟨s, hs, h1, h2⟩
    · refine ih (s - (n - back)) (by omega) ?_ (fun m hm => h2 m (by omega))
      have h3 := it_round hb (it_in hb (s - (n - back)) i hi (by omega)) (it_lt hb (s - (n - back)) i hi)
      rw [← it_add, show n - back + (s - (n - back)) = s by omega] at h3
      rw [← h3]
      exact h1

/-- Two sweeps settle what comes some time. -/
theorem sweep_until {n back : Nat} (hb : back < n) (A B : Nat → Bool) (x1 x2 : Nat → Bool)
    (h1 : ∀ i, i < n → x1 i = (B i || (A i && (if i + 1 < n then x1 (i + 1) else false)))) (h2 : ∀ i, i < n → x2 i = (B i || (A i && (if i + 1 < n then x2 (i + 1) else x1 back)))) (i : Nat) (hi : i < n) :
    x2 i = true ↔ UU (lnx n back) (fun i => A i = true) (fun i => B i = true) i := by
  have fx := UU_fix (lnx n back) (fun i => A i = true) (fun i => B i = true)
  -- sound
  have s1 : ∀ d i, i + d + 1 = n → x1 i = true → UU (lnx n back) (fun i => A i = true) (fun i => B i = true) i := by
    intro d
    induction d with
    | zero =>
      intro i hd hx
      rw [h1 i (by omega), if_neg (by omega)] at hx
      rw [fx]; simp at hx; exact Or.inl hx
    | succ d ih =>
      intro i hd hx
      rw [h1 i (by omega), if_pos (by omega)] at hx
      rw [fx]
      simp only [Bool.or_eq_true, Bool.and_eq_true] at hx
      rcases hx with hx | ⟨ha, hx⟩
      · exact Or.inl hx
      · refine Or.inr ⟨ha, ?_⟩
        rw [show lnx n back i = i + 1 by unfold lnx; rw [if_pos (by omega)]]
        exact ih (i + 1) (by omega) hx
  -- what comes before the end is seen by the first sweep
  have c1 : ∀ s i, i + s < n → B (i + s) = true → (∀ m, m < s → A (i + m) = true) → x1 i = true := by
    intro s
    induction s with
    | zero => intro i hi hB _; rw [h1 i (by omega)]; simp at hB; simp [hB]
    | succ s ih =>
      intro i hi hB hA
      rw [h1 i (by omega), if_pos (by omega)]
      have := ih (i + 1) (by omega) (by rw [show i + 1 + s = i + (s + 1) by omega]; exact hB) (fun m hm => by rw [show i + 1 + m = i + (m + 1) by omega]; exact hA (m + 1) (by omega))
      have ha := hA 0 (by omega)
      simp only [Nat.add_zero] at ha
      simp [this, ha]
  have b1 : x1 back = true ↔ UU (lnx n back) (fun i => A i = true) (fun i => B i = true) back := by
    constructor
    · exact s1 (n - 1 - back) back (by omega)
    · rintro ⟨s, hB, hA⟩
      induction s using Nat.strongRecOn with
      | _ s ih =>
        by_cases hs : s < n - back
        · rw [it_straight s back (by omega)] at hB
          exact c1 s back (by omega) hB (fun m hm => by have := hA m hm; rw [it_straight m back (by omega)] at this; exact this)
        · refine ih (s - (n - back)) (by omega) ?_ (fun m hm => hA m (by omega))
          have h3 := it_round hb (Nat.le_refl back) hb
          rw [show s = (s - (n - back)) + (n - back) by omega, it_add, h3] at hB
          exact hB
  have s2 : ∀ d i, i + d + 1 = n → (x2 i = true ↔ UU (lnx n back) (fun i => A i = true) (fun i => B i = true) i) := by
    intro d
    induction d with
    | zero =>
      intro i hd
      rw [h2 i (by omega), if_neg (by omega), fx, show lnx n back i = back by unfold lnx; rw [if_neg (by omega)], ← b1]
      simp
    | succ d ih =>
      intro i hd
      rw [h2 i (by omega), if_pos (by omega), fx, show lnx n back i = i + 1 by unfold lnx; rw [if_pos (by omega)], ← ih (i + 1) (by omega)]
      simp
  exact s2 (n - 1 - i) i (by omega)

end Go.Proofs.Ytjagijohfkffiab

/- Sets of nodes as ints: Has, With. -/
namespace Go.Proofs.Ytjagijohfkffiab
open Go.RowKit
set_option linter.unusedVariables false

/-- The set with node k in it, or without it. -/
def wth (S k : Nat) (b : Bool) : Nat := if b then S ||| 2 ^ k else S - (if S.testBit k then 2 ^ k else 0)

theorem has_fin : ∀ S : Fin 256, ∀ k : Fin 8, (bits BinOp.and IntKind.i64 ((S.val : Int) / 2 ^ k.val) 1 == 1) = S.val.testBit k.val := by decide +kernel
theorem wth_t_fin : ∀ S : Fin 256, ∀ k : Fin 8, bits BinOp.or IntKind.i64 (S.val : Int) (2 ^ k.val) = ((wth S.val k.val true : Nat) : Int) := by decide +kernel
theorem wth_f_fin : ∀ S : Fin 256, ∀ k : Fin 8, bits BinOp.andNot IntKind.i64 (S.val : Int) (2 ^ k.val) = ((wth S.val k.val false : Nat) : Int) := by decide +kernel
theorem wth_lt_fin : ∀ S : Fin 256, ∀ k : Fin 8, ∀ b : Bool, wth S.val k.val b < 256 := by decide +kernel
theorem wth_bit_fin : ∀ S : Fin 256, ∀ k : Fin 8, ∀ j : Fin 8, ∀ b : Bool, (wth S.val k.val b).testBit j.val = if j.val = k.val then b else S.val.testBit j.val := by decide +kernel

theorem wth_lt {S k : Nat} {b : Bool} (hS : S < 256) (hk : k < 8) : wth S k b < 256 := wth_lt_fin ⟨S, hS⟩ ⟨k, hk⟩ b
theorem wth_bit {S k j : Nat} {b : Bool} (hS : S < 256) (hk : k < 8) (hj : j < 8) : (wth S k b).testBit j = if j = k then b else S.testBit j := wth_bit_fin ⟨S, hS⟩ ⟨k, hk⟩ ⟨j, hj⟩ b
theorem pow_wrap {k : Nat} (hk : k < 8) : wrap64 (2 ^ k) = 2 ^ k := by
  have : (2 : Int) ^ k ≤ 128 ∧ 0 ≤ (2 : Int) ^ k := by
    have h : ∀ k : Fin 8, (2 : Int) ^ k.val ≤ 128 ∧ 0 ≤ (2 : Int) ^ k.val := by decide
    exact h ⟨k, hk⟩
  exact IntWalk.wrap64_in _ ⟨by omega, by omega⟩

theorem ret_bool {a b : Bool} (h : a = b) : Ending.returned (.bool a) = .returned (.bool b) := by rw [h]
theorem ret_int {k : IntKind} {a b : Int} (h : a = b) : Ending.returned (.int k a) = .returned (.int k b) := by rw [h]

set_option maxHeartbeats 400000 in
theorem has_any (S k : Nat) (w : World) (hS : S < 256) (hk : k < 8) : Calls Try.prog 68 #[.int .i64 S, .int .i64 k] w fun e w' => e = .returned (.bool (S.testBit k)) ∧ w' = w := by
  have H := hid (has_fin ⟨S, hS⟩ ⟨k, hk⟩)
  go_enter Try.func68, Try.ntmps68
  go_wp2
  go_ret
  exact ⟨ret_bool H.out, rfl⟩

set_option maxHeartbeats 400000 in
theorem with_any (S k : Nat) (b : Bool) (w : World) (hS : S < 256) (hk : k < 8) : Calls Try.prog 105 #[.int .i64 S, .int .i64 k, .bool b] w fun e w' => e = .returned (.int .i64 (wth S k b : Nat)) ∧ w' = w := by
  have HT : Hid (bits BinOp.or IntKind.i64 (S : Int) (wrap64 (2 ^ k)) = ((wth S k true : Nat) : Int)) := hid (by rw [pow_wrap hk]; exact wth_t_fin ⟨S, hS⟩ ⟨k, hk⟩)
  have HF : Hid (bits BinOp.andNot IntKind.i64 (S : Int) (wrap64 (2 ^ k)) = ((wth S k false : Nat) : Int)) := hid (by rw [pow_wrap hk]; exact wth_f_fin ⟨S, hS⟩ ⟨k, hk⟩)
  cases b with
  | true =>
    go_enter Try.func105, Try.ntmps105
    go_wp2
    go_ret
    exact ⟨ret_int HT.out, rfl⟩
  | false =>
    go_enter Try.func105, Try.ntmps105
    go_wp2
    go_ret
    exact ⟨ret_int HF.out, rfl⟩

end Go.Proofs.Ytjagijohfkffiab
