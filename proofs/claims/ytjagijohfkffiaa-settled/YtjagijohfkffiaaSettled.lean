/- Settled: plain mathematics, judging, the walk. -/
import Derived.Test.YtjagijohfkffiaaJudgeW
import Derived.Test.YtjagijohfkffiaaHoldW
namespace Go.Proofs.Ytjagijohfkffiaa
open Go.RowKit
set_option linter.unusedVariables false

theorem begins_left {A B : List Nat} {x : Nat → Nat} (h : Begins (A ++ B) x) : Begins A x := fun i hi => by
  rw [h i (by rw [List.length_append]; omega), getD_app_left hi]
theorem begins_next {A : List Nat} {x : Nat → Nat} (h : Begins A x) : Begins (A ++ [x A.length]) x := fun i hi => by
  rw [List.length_append, List.length_singleton] at hi
  by_cases e : i < A.length
  · rw [getD_app_left e]; exact h i e
  · rw [getD_app_right (by omega), show i = A.length by omega]; simp
theorem begins_wordAt (A B : List Nat) : Begins A (wordAt A B) := fun i hi => by unfold wordAt; rw [if_pos hi]
theorem letters_wordAt {A B : List Nat} (h : ∀ x ∈ A ++ B, x < 8) : Letters (wordAt A B) := fun t => by
  have gd : ∀ (l : List Nat) (i : Nat), (∀ x ∈ l, x < 8) → l.getD i 0 < 8 := fun l i hl => by
    rw [List.getD]
    cases e : l[i]? with
    | none => simp
    | some y => exact hl y (List.mem_of_getElem? e)
  unfold wordAt
  split
  · exact gd A _ (fun x hx => h x (by simp [hx]))
  · exact gd B _ (fun x hx => h x (by simp [hx]))

theorem settled_more {ns : List Nd} {A B : List Nat} {v u : Nat} (hab : ∀ x ∈ A ++ B, x < 8) (hv : Verdict ns A v) (hu : Verdict ns (A ++ B) u) : (v = 1 → u = 1) ∧ (v = 2 → u = 2) := by
  have d1 := verdict_doc (fun x hx => hab x (by simp [hx])) hv
  have d2 := verdict_doc hab hu
  exact ⟨fun h => d2.1.2 fun x h1 h2 => d1.1.1 h x h1 (begins_left h2), fun h => d2.2.2 fun x h1 h2 => d1.2.1 h x h1 (begins_left h2)⟩
theorem settled_inf {ns : List Nd} {A B C : List Nat} {v : Nat} {y : Bool} (h8 : ∀ x ∈ (A ++ B) ++ C, x < 8) (hv : Verdict ns A v) (hy : y = true ↔ sem (fun i => i + 1) (wordAt (A ++ B) C) ns (ns.length - 1) 0) : (v = 1 → y = true) ∧ (v = 2 → y = false) := by
  have d1 := verdict_doc (fun x hx => h8 x (by simp [hx])) hv
  have hb := begins_left (begins_wordAt (A ++ B) C)
  refine ⟨fun h => hy.2 (d1.1.1 h _ (letters_wordAt h8) hb), fun h => ?_⟩
  cases e : y with
  | false => rfl
  | true => exact absurd (hy.1 e) (d1.2.1 h _ (letters_wordAt h8) hb)
theorem settled_all {ns : List Nd} {A : List Nat} {v : Nat} (h8 : ∀ x ∈ A, x < 8) (hv : Verdict ns A v) (hx : ∀ k, k < 8 → ∃ x, Verdict ns (A ++ [k]) x) :
    ((∀ k, k < 8 → Verdict ns (A ++ [k]) 1) ↔ v = 1) ∧ ((∀ k, k < 8 → Verdict ns (A ++ [k]) 2) ↔ v = 2) := by
  have d1 := verdict_doc h8 hv
  have k8 : ∀ k, k < 8 → ∀ x ∈ A ++ [k], x < 8 := fun k hk x hx => by
    rcases List.mem_append.1 hx with h | h
    · exact h8 x h
    · simp at h; omega
  have d2 : ∀ k, k < 8 → ∀ x, Verdict ns (A ++ [k]) x → _ := fun k hk x h => verdict_doc (k8 k hk) h
  refine ⟨⟨fun h => d1.1.2 fun x h1 h2 => ?_, fun h k hk => ?_⟩, ⟨fun h => d1.2.2 fun x h1 h2 => ?_, fun h k hk => ?_⟩⟩
  · exact (d2 _ (h1 A.length) 1 (h _ (h1 A.length))).1.1 rfl x h1 (begins_next h2)
  · obtain ⟨y, hy⟩ := hx k hk
    have := (d2 k hk y hy).1.2 fun x h1 h2 => d1.1.1 h x h1 (begins_left h2)
    rw [this] at hy; exact hy
  · exact (d2 _ (h1 A.length) 2 (h _ (h1 A.length))).2.1 rfl x h1 (begins_next h2)
  · obtain ⟨y, hy⟩ := hx k hk
    have := (d2 k hk y hy).2.2 fun x h1 h2 => d1.2.1 h x h1 (begins_left h2)
    rw [this] at hy; exact hy

/-- Judge of letters. -/
theorem judgeL (s : ByteArray) (hm : s.size ≤ maxLen) (a1 : Option Addr) (l1 c1 : Nat) (xs : List Nat) (w : World) (h1 : Ints w a1 l1 c1 (intsOf xs)) (x8 : ∀ x ∈ xs, x < 8) (q1 : xs.length ≤ 40) :
    Calls Try.prog 28 #[.string s, .slice a1 l1 c1] w fun e w' => ∃ v : Nat, e = .returned (.tuple #[.int .i64 v, .int .i64 (parseOf s).1]) ∧ ((parseOf s).1 = 0 → Verdict (parseOf s).2 xs v) ∧ ((parseOf s).1 ≠ 0 → v = 0) ∧ Below w.heap.size w w' := by
  have h := judge_any s a1 l1 c1 (intsOf xs) w hm h1
  unfold RJudged at h
  have e : judgeErr s (intsOf xs) = (parseOf s).1 := by
    unfold judgeErr
    split
    · rename_i h0; rw [intsOf_len, if_neg (by omega), if_pos (allL_ints x8), h0]
    · rfl
  rw [e, natOf_ints] at h
  exact h

theorem gp_parse : parseOf ⟨#[71, 112]⟩ = (0, [⟨112, 0, 0⟩, ⟨71, 0, 0⟩]) := by rfl
theorem gp_sem (x : Nat → Nat) : sem (fun i => i + 1) x [⟨112, 0, 0⟩, ⟨71, 0, 0⟩] 1 0 ↔ ∀ t, (x t).testBit 0 = true := by
  have e : ∀ s i, it (fun i => i + 1) s i = i + s := by
    intro s
    induction s with
    | zero => intro i; rfl
    | succ s ih => intro i; simp only [it]; rw [ih]; omega
  simp [sem, rows, den, e]
theorem gp_one {v : Nat} (h : Verdict [⟨112, 0, 0⟩, ⟨71, 0, 0⟩] [1] v) : v = 0 := by
  have d := verdict_doc (by simp) h
  have n1 : ¬ v = 1 := fun e => by
    have := d.1.1 e (fun t => if t = 0 then 1 else 0) (fun t => by dsimp only; split <;> omega) (fun i hi => by simp at hi; subst hi; rfl)
    have := (gp_sem _).1 this 1
    simp at this
  have n2 : ¬ v = 2 := fun e => by
    refine d.2.1 e (fun _ => 1) (fun t => by simp) (fun i hi => by simp at hi; subst hi; rfl) ((gp_sem _).2 fun t => by simp)
  rcases h with ⟨h, _⟩ | ⟨h, _⟩ | ⟨h, _⟩
  · exact absurd h n2
  · exact absurd h n1
  · exact h
theorem gp_two {v : Nat} (h : Verdict [⟨112, 0, 0⟩, ⟨71, 0, 0⟩] [0] v) : v = 2 := by
  have d := verdict_doc (by simp) h
  refine d.2.2 fun x h1 h2 h3 => ?_
  have h4 := (gp_sem x).1 h3 0
  have h5 := h2 0 (by simp)
  simp at h5
  rw [h5] at h4
  simp at h4

theorem intsOf_one (k : Nat) : intsOf [k] = [(k : Int)] := by simp [intsOf]

set_option maxHeartbeats 400000 in
theorem judging_any (w : World) : Calls Try.prog 39 #[] w fun e w' => e = .returned (.bool true) ∧ Below w.heap.size w w' := by
  have C1 := fun (W : World) => judgeL ⟨#[71, 112]⟩ (by decide) (some ⟨W.heap.size, 0, none⟩) 1 1 [1] (W.alloc (.cells #[.int .i64 1] 3)) (by rw [intsOf_one]; exact ints_one W 1) (by simp) (by simp)
  have C2 := fun (W : World) => judgeL ⟨#[71, 112]⟩ (by decide) (some ⟨W.heap.size, 0, none⟩) 1 1 [0] (W.alloc (.cells #[.int .i64 0] 3)) (by rw [intsOf_one]; exact ints_one W 0) (by simp) (by simp)
  rw [gp_parse] at C1 C2
  go_enter Try.func39, Try.ntmps39
  go_wp2_with fail
  refine (C1 _).mono ?_
  rintro e w1 ⟨v1, rfl, q1, _, hb1⟩
  obtain rfl := gp_one (q1 trivial)
  have B1 := hid (((Below.refl w.heap.size w).alloc (Nat.le_refl _) _).trans (hb1.mono (by simp)))
  clear hb1 q1
  go_wp2_with fail
  refine (C2 _).mono ?_
  rintro e w2 ⟨v2, rfl, q2, _, hb2⟩
  obtain rfl := gp_two (q2 trivial)
  have hz := B1.out.size
  have B2 := hid ((B1.out.alloc hz _).trans (hb2.mono (by simp; omega)))
  clear hb2 q2 C1 C2
  go_wp2_with fail
  go_ret
  exact ⟨rfl, B2.out⟩

end Go.Proofs.Ytjagijohfkffiaa
