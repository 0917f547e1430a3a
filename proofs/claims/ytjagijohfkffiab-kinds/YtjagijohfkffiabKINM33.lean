import Derived.Test.YtjagijohfkffiabKINM15
import Derived.Test.YtjagijohfkffiabKINM25
import Derived.Test.YtjagijohfkffiabKINM26
import Derived.Test.YtjagijohfkffiabKINM28
import Derived.Test.YtjagijohfkffiabKINM30
import Derived.Test.YtjagijohfkffiabKINM31
import Derived.Test.YtjagijohfkffiabKINM32
import Derived.Deep.QuietTactic
import Derived.BigQuiet
import Derived.Deep.RegionLaw
import Derived.Deep.DrawnRows

/- The walks of verdictlaw's sameInts, sameLists, sameMachine: two that are alike. -/
namespace Go.Proofs.Ytjagijohfkffiab
open Go.RowKit
set_option linter.unusedVariables false

theorem Ints.drewN {w : World} {a : Option Addr} {l c : Nat} {zs : List Int} (h : Ints w a l c zs) (n : Nat) : Ints (w.drewN n) a l c zs := h.below (below_drewN (Below.refl _ _) n)

/-- The lists that came out, as they are read. -/
theorem Lies.ints {w : World} {B : Nat} {v1 v2 : Value} {V : Nat → Value} {ss : List St} {j : Nat} (h : Lies w B v1 v2 V ss j) : ∃ a c, v1 = .slice a j c ∧ Ints w a j c (outsTo ss j) := by
  have hl : (outsTo ss j).length = j := by simp [outsTo]
  rcases h.out.2 with ⟨rfl, rfl⟩ | ⟨g, cap, cur, rfl, hb, hh, hc, hm, _⟩
  · exact ⟨none, 0, rfl, hl, Nat.le_refl _, by omega, fun _ => ⟨rfl, rfl⟩, fun h => by omega⟩
  · refine ⟨_, cap, rfl, hl, hc, by unfold maxLen at hm; omega, fun h => by simp at h, fun _ => ⟨g, 0, rfl, (Array.getElem?_eq_some_iff.1 hh).1, fun i hi => ?_⟩⟩
    rw [Nat.zero_add, h.out.cellAt i (by omega)]
    simp [intVs, List.getD, List.getElem?_eq_getElem (show i < (outsTo ss j).length by omega)]
def nextTo (ss : List St) (j : Nat) : List (List Int) := (List.range j).map fun i => (stAt ss i).next
theorem own_row_ints {w : World} {B n : Nat} {v : Value} {zs : List Int} (h : w.ownsRow B 3 1 v n (intVs zs)) : ∃ a c, v = .slice a n c ∧ Ints w a n c zs := by
  have hl : zs.length = n := by have := h.1; simp [intVs] at this; exact this
  rcases h.2 with ⟨rfl, rfl⟩ | ⟨g, cap, cur, rfl, hb, hh, hc, hm, _⟩
  · exact ⟨none, 0, rfl, hl, Nat.le_refl _, by omega, fun _ => ⟨rfl, rfl⟩, fun h => by omega⟩
  · refine ⟨_, cap, rfl, hl, hc, by unfold maxLen at hm; omega, fun h => by simp at h, fun _ => ⟨g, 0, rfl, (Array.getElem?_eq_some_iff.1 hh).1, fun i hi => ?_⟩⟩
    rw [Nat.zero_add, h.cellAt i (by omega)]
    simp [intVs, List.getD, List.getElem?_eq_getElem (show i < zs.length by omega)]
theorem Lies.lists {w : World} {B : Nat} {v1 v2 : Value} {V : Nat → Value} {ss : List St} {j : Nat} (h : Lies w B v1 v2 V ss j) : ∃ a c, v2 = .slice a j c ∧ Lists w a j c (nextTo ss j) := by
  have hl : (nextTo ss j).length = j := by simp [nextTo]
  rcases h.nxt.2 with ⟨rfl, rfl⟩ | ⟨g, cap, cur, rfl, hb, hh, hc, hm, _⟩
  · exact ⟨none, 0, rfl, hl, Nat.le_refl _, by omega, fun _ => ⟨rfl, rfl⟩, fun h => by omega⟩
  · refine ⟨_, cap, rfl, hl, hc, by unfold maxLen at hm; omega, fun h => by simp at h, fun _ => ⟨g, 0, rfl, (Array.getElem?_eq_some_iff.1 hh).1, fun i hi => ?_⟩⟩
    obtain ⟨a, c, hv, hi2⟩ := own_row_ints (h.row i hi)
    refine ⟨a, 8, c, ?_, ?_⟩
    · rw [Nat.zero_add, h.nxt.cellAt i (by omega)]
      simp [List.getElem?_map, List.getElem?_range hi, hv]
    · rw [show (nextTo ss j).getD i [] = (stAt ss i).next by simp [nextTo, List.getD, List.getElem?_map, List.getElem?_range hi]]
      exact hi2

end Go.Proofs.Ytjagijohfkffiab

/- The machine of Gp; the walk of watching. -/
namespace Go.Proofs.Ytjagijohfkffiab
open Go.RowKit
set_option linter.unusedVariables false

def gpN : List Nd := [⟨112, 0, 0⟩, ⟨71, 0, 0⟩]
def gpO (i : Nat) : Nat := if i = 0 then 0 else 2
def gpX (i a : Nat) : Nat := if i = 0 ∧ a % 2 = 1 then 0 else 1

theorem gp_run1 : ∀ w : List Nat, runM gpX 1 w = 1
  | [] => rfl
  | a :: w => by
    show runM gpX (gpX 1 a) w = 1
    rw [show gpX 1 a = 1 by simp [gpX]]
    exact gp_run1 w
theorem gp_run0 : ∀ w : List Nat, (runM gpX 0 w = 0 ∧ ∀ x ∈ w, x % 2 = 1) ∨ (runM gpX 0 w = 1 ∧ ∃ x ∈ w, x % 2 = 0)
  | [] => Or.inl ⟨rfl, fun x hx => by simp at hx⟩
  | a :: w => by
    by_cases h : a % 2 = 1
    · have e : runM gpX 0 (a :: w) = runM gpX 0 w := by show runM gpX (gpX 0 a) w = _; rw [show gpX 0 a = 0 by simp [gpX, h]]
      rw [e]
      rcases gp_run0 w with ⟨h1, h2⟩ | ⟨h1, x, h2, h3⟩
      · exact Or.inl ⟨h1, fun x hx => by
          rcases List.mem_cons.1 hx with rfl | hx
          · exact h
          · exact h2 x hx⟩
      · exact Or.inr ⟨h1, x, List.mem_cons_of_mem _ h2, h3⟩
    · have e : runM gpX 0 (a :: w) = 1 := by
        show runM gpX (gpX 0 a) w = _
        rw [show gpX 0 a = 1 by simp [gpX, h]]
        exact gp_run1 w
      exact Or.inr ⟨e, a, List.mem_cons_self .., by omega⟩
theorem bit0 (x : Nat) : x.testBit 0 = true ↔ x % 2 = 1 := by simp [Nat.testBit_zero]

theorem gp_tells (w : List Nat) (hw : LettersL w) : Verdict gpN w (gpO (runM gpX 0 w)) := by
  have lt : ∀ d, d < 8 → Letters (fun i => w.getD i d) := fun d hd t => by
    show w.getD t d < 8
    rw [List.getD]
    cases e : w[t]? with
    | none => simpa using hd
    | some y => exact hw y (List.mem_of_getElem? e)
  have bg : ∀ d, Begins w (fun i => w.getD i d) := fun d i hi => by simp [List.getD, List.getElem?_eq_getElem hi]
  rcases gp_run0 w with ⟨h1, h2⟩ | ⟨h1, x, h2, h3⟩
  · rw [h1]
    refine Or.inr (Or.inr ⟨rfl, ⟨fun i => w.getD i 1, lt 1 (by omega), bg 1, ?_⟩, ⟨fun i => w.getD i 0, lt 0 (by omega), bg 0, ?_⟩⟩)
    · refine ⟨fun _ => rfl, fun _ => (gp_sem _).2 fun t => ?_⟩
      rw [bit0, List.getD]
      cases e : w[t]? with
      | none => rfl
      | some y => exact h2 y (List.mem_of_getElem? e)
    · refine ⟨fun h => ?_, fun h => (by cases h)⟩
      have := (gp_sem _).1 h w.length
      rw [bit0, List.getD, List.getElem?_eq_none (Nat.le_refl _)] at this
      simp at this
  · rw [h1]
    refine Or.inl ⟨rfl, ?_⟩
    rintro ⟨y, _, hb, hs⟩
    obtain ⟨i, hi, e⟩ := List.getElem_of_mem h2
    have h4 := (gp_sem y).1 (hs.2 rfl) i
    rw [hb i hi, bit0] at h4
    simp [List.getD, List.getElem?_eq_getElem hi, e] at h4
    omega

theorem gp_mach : Mach gpN 2 gpO gpX := by
  refine ⟨⟨by decide, by decide⟩, fun i j hi hj hl => ?_, gp_tells⟩
  have h := hl [] (fun x hx => by simp at hx)
  simp only [runM] at h
  have : i = 0 ∨ i = 1 := by omega
  have : j = 0 ∨ j = 1 := by omega
  rcases ‹i = 0 ∨ i = 1› with rfl | rfl <;> rcases ‹j = 0 ∨ j = 1› with rfl | rfl <;> simp_all [gpO]

def gpSS : List St := [⟨0, [1, 0, 1, 0, 1, 0, 1, 0]⟩, ⟨2, [1, 1, 1, 1, 1, 1, 1, 1]⟩]
theorem gp_states {ss : List St} (h : MachS gpN ss) : ss = gpSS := by
  obtain ⟨out, nx, hM, hs⟩ := h
  obtain ⟨hl, e1, e2⟩ := mach_fun hM gp_mach
  have s : ∀ c, c < 2 → ss[c]? = some (stK (gpO c) (gpX c)) := fun c hc => by
    rw [hs c (by omega)]
    congr 1
    exact stK_inj.2 ⟨e1 c (by omega), fun a ha => e2 c a (by omega) ha⟩
  apply List.ext_getElem?
  intro i
  by_cases h2 : i < 2
  · rw [s i h2]
    have : i = 0 ∨ i = 1 := by omega
    rcases this with rfl | rfl <;> rfl
  · rw [List.getElem?_eq_none (by omega), List.getElem?_eq_none (by show 2 ≤ i; omega)]
theorem gp_small : ¬ Big gpN := fun h => by
  have := h _ _ _ gp_mach
  omega

def gpB : ByteArray := ⟨#[2, 0, 1, 0, 1, 0, 1, 0, 1, 0, 2, 1, 1, 1, 1, 1, 1, 1, 1]⟩
theorem gp_write : writeStr (outsTo gpSS 2) (nextTo gpSS 2) = gpB ∧ writeErr (outsTo gpSS 2) (nextTo gpSS 2) = 0 := by decide +kernel
theorem gp_read : readB gpB = true ∧ readErr gpB = 0 ∧ bt gpB 0 = 2 := by decide +kernel
theorem gp_runs : runVal gpB [1, 0] = 2 ∧ runErr gpB [1, 0] = 0 := by decide +kernel

theorem two_ints (w : World) (a b : Int) : Ints (w.alloc (.cells #[.int .i64 a, .int .i64 b] 3)) (some ⟨w.heap.size, 0, none⟩) 2 2 [a, b] := by
  refine ⟨rfl, Nat.le_refl _, by omega, fun h => by simp at h, fun _ => ⟨w.heap.size, 0, rfl, by simp, fun i hi => ?_⟩⟩
  have : i = 0 ∨ i = 1 := by omega
  rcases this with rfl | rfl <;> simp

set_option maxHeartbeats 1000000 in
set_option maxRecDepth 100000 in
theorem watching_any (w : World) : Calls Try.prog 8 #[] w fun e w' => e = .returned (.bool true) ∧ Below w.heap.size w w' := by
  have C1 := fun W => watch_any ⟨#[71, 112]⟩ W (by decide)
  unfold Watched at C1
  rw [gp_parse] at C1
  have C3 := fun W => read_any gpB W (by decide)
  unfold ReadDone at C3
  rw [gp_read.2.1, gp_read.2.2] at C3
  have C4 : ∀ (W : World) (n : Nat), W.heap.size = n → Calls Try.prog 32 #[.string gpB, .slice (some ⟨n, 0, none⟩) 2 2] (W.alloc (.cells #[.int .i64 1, .int .i64 0] 3)) fun e w' => e = .returned (.tuple #[.int .i64 2, .int .i64 0]) ∧ Below (W.alloc (.cells #[.int .i64 1, .int .i64 0] 3)).heap.size (W.alloc (.cells #[.int .i64 1, .int .i64 0] 3)) w' := fun W n hn => by
    subst hn
    have h9 := vrun_any gpB (some ⟨W.heap.size, 0, none⟩) 2 2 [1, 0] _ (by decide) (two_ints W 1 0)
    rw [gp_runs.1, gp_runs.2] at h9
    exact h9
  go_enter Try.func8, Try.ntmps8
  go_wp2_with fail
  refine (C1 _).mono ?_
  rintro e w1 ⟨v1, v2, er, rfl, _, q1, hb1⟩
  rcases q1 trivial with ⟨rfl, ss, V, hL, _, _, hM⟩ | ⟨_, _, _, hB⟩
  · obtain rfl := gp_states hM
    obtain ⟨a1, c1, rfl, I1⟩ := hL.ints
    obtain ⟨a2, c2, rfl, L2⟩ := hL.lists
    have ba := (Below.refl w1.heap.size w1).alloc (Nat.le_refl _) (.cells #[.slice a1 gpSS.length c1, .slice a2 gpSS.length c2] 35)
    have C2 := write_any a1 a2 gpSS.length c1 gpSS.length c2 (outsTo gpSS 2) (nextTo gpSS 2) _ (I1.below ba) (L2.below ba)
    rw [gp_write.1, gp_write.2] at C2
    have T1 := two_new w1 (.slice a1 gpSS.length c1) (.slice a2 gpSS.length c2) 35
    have HB1 := hid (hb1.trans (ba.mono hb1.size))
    have hs1 := hb1.size
    clear C1 q1 hM hL I1 L2 ba hb1
    rw [show gpSS.length = 2 from rfl] at *
    go_wp2_with fail
    refine C2.mono ?_
    rintro e w2 ⟨rfl, hb2⟩
    have T2 := T1.below hb2 (by simp)
    have HB2 := hid (HB1.out.trans (hb2.mono HB1.out.size))
    have hs2 := T2.lt
    clear C2 T1 hb2 HB1
    go_wp2_with fail
    refine (C3 _).mono ?_
    rintro e w3 ⟨hb3, k1, k2, rfl, hk⟩
    rcases hk with ⟨h0, _⟩ | ⟨_, V3, hL3⟩
    · rw [gp_read.1] at h0
      cases h0
    · obtain ⟨a3, c3, rfl⟩ := own_slice hL3.out
      obtain ⟨a4, c4, rfl⟩ := own_slice hL3.nxt
      have T3 := T2.below hb3 hs2
      have HB3 := hid (HB2.out.trans (hb3.mono HB2.out.size))
      have ba := (Below.refl w3.heap.size w3).alloc (Nat.le_refl _) (.cells #[.slice a3 2 c3, .slice a4 2 c4] 35)
      have T4 := T3.below ba T3.lt
      have U4 := two_new w3 (.slice a3 2 c3) (.slice a4 2 c4) 35
      have HB4 := hid (HB3.out.trans (ba.mono HB3.out.size))
      have hs3 := T3.lt
      clear C3 T2 T3 hb3 HB2 HB3 ba hL3
      go_wp2_with fail
      refine (C4 _ (w3.heap.size + 1) (by simp)).mono ?_
      rintro e w5 ⟨rfl, hb5⟩
      simp only [World.size_alloc] at hb5
      have bz := (((Below.refl w3.heap.size w3).alloc (Nat.le_refl _) (.cells #[.slice a3 2 c3, .slice a4 2 c4] 35)))
      have T5 := (T4.below ((Below.refl (w3.heap.size + 1) _).alloc (by simp) (.cells #[.int .i64 1, .int .i64 0] 3)) (by omega)).below hb5 (by omega)
      have U5 := (U4.below ((Below.refl (w3.heap.size + 1) _).alloc (by simp) (.cells #[.int .i64 1, .int .i64 0] 3)) (by omega)).below hb5 (by omega)
      have HB5 := hid ((HB4.out.alloc (by have := HB4.out.size; simp at this; simp; omega) (.cells #[.int .i64 1, .int .i64 0] 3)).trans (hb5.mono (by have := HB4.out.size; simp at this; omega)))
      have x0 := T5.c0
      have y0 := U5.c0
      clear C4 T4 U4 T5 U5 hb5 HB4 bz
      go_wp2
      go_ret
      exact ⟨rfl, HB5.out⟩
  · exact absurd hB gp_small

end Go.Proofs.Ytjagijohfkffiab

/- Plain mathematics: a formula that is composed of others. -/
namespace Go.Proofs.Ytjagijohfkffiab

end Go.Proofs.Ytjagijohfkffiab

/- Plain mathematics: what a composed formula is, and what it means. -/
namespace Go.Proofs.Ytjagijohfkffiab

end Go.Proofs.Ytjagijohfkffiab

/- Settled: the walk. -/
namespace Go.Proofs.Ytjagijohfkffiab
open Go.RowKit
set_option linter.unusedVariables false

theorem verdict_lt {ns : List Nd} {u : List Nat} {x : Nat} (h : Verdict ns u x) : x = 0 ∨ x = 1 ∨ x = 2 := by rcases h with ⟨h, _⟩ | ⟨h, _⟩ | ⟨h, _⟩ <;> omega
end Go.Proofs.Ytjagijohfkffiab

/- The walks of the reference's Formed and Write. -/
namespace Go.Proofs.Ytjagijohfkffiab
open Go.RowKit
set_option linter.unusedVariables false

def rB (n i : Nat) (o k : Int) : Bool := decide (0 ≤ k) && decide (k < n) && (decide (o = 0) || decide (k = i))
def bsB (o : Int) (l : List Int) : Bool := decide (l.length = 8) && decide (0 ≤ o) && decide (o ≤ 2)
def rowB (n i : Nat) (o : Int) (l : List Int) : Bool := bsB o l && l.all (rB n i o)

theorem rB_goes {n i : Nat} {o k : Int} (h0 : 0 ≤ o) (h2 : o ≤ 2) : rB n i o k = goesB n i (finB o) k := by
  unfold rB goesB finB
  have : o = 0 ∨ o = 1 ∨ o = 2 := by omega
  rcases this with rfl | rfl | rfl <;> simp
theorem rowB_st {n i : Nat} {o : Int} {l : List Int} : rowB n i o l = (decide (l.length = 8) && stB n i ⟨o, l⟩) := by
  unfold rowB bsB stB
  by_cases h0 : 0 ≤ o
  · by_cases h2 : o ≤ 2
    · have e : (rB n i o) = goesB n i (finB o) := funext fun k => rB_goes h0 h2
      have : o = 0 ∨ o = 1 ∨ o = 2 := by omega
      rw [e]
      rcases this with rfl | rfl | rfl <;> simp [finB]
    · simp [finB, h2]
      intro h h3
      omega
  · simp [finB, h0]
    intro h h3
    omega
theorem formed_rows {os : List Int} {ls : List (List Int)} (hl : ls.length = os.length) (h1 : 1 ≤ os.length) (h8 : os.length ≤ 8) : formedB os ls = true ↔ ∀ i, i < os.length → rowB os.length i (os.getD i 0) (ls.getD i []) = true := by
  constructor
  · intro h i hi
    have e := formed_len h
    rw [rowB_st, e.2.1 i (by omega)]
    have := (wfB_iff.1 e.2.2).2.2 i (by rw [zip_len hl]; exact hi)
    rw [zip_len hl, zip_at hl hi] at this
    rw [this]; rfl
  · intro h
    have e2 : ∀ i, i < ls.length → (ls.getD i []).length = 8 := fun i hi => by
      have := h i (by omega)
      rw [rowB_st] at this
      simp at this
      simpa using this.1
    rw [(formed_mk hl e2).1, wfB_iff, zip_len hl]
    refine ⟨h1, h8, fun i hi => ?_⟩
    have := h i hi
    rw [rowB_st] at this
    rw [zip_at hl hi]
    simp only [Bool.and_eq_true] at this
    exact this.2

section
variable (a1 a2 : Option Addr) (l1 c1 l2 c2 : Nat) (os : List Int) (ls : List (List Int)) (w : World)

end

end Go.Proofs.Ytjagijohfkffiab

/- The walk of the reference's Write; Writes' walk. -/
namespace Go.Proofs.Ytjagijohfkffiab
open Go.RowKit
set_option linter.unusedVariables false

section
variable (a1 a2 : Option Addr) (l1 c1 l2 c2 : Nat) (os : List Int) (ls : List (List Int)) (w : World)

end

end Go.Proofs.Ytjagijohfkffiab

/- The walk of the reference's Read. -/
namespace Go.Proofs.Ytjagijohfkffiab
open Go.RowKit
set_option linter.unusedVariables false
attribute [local go_sem ↓] Go.wp_at_zero Go.wp_at_succ

/-- The bytes from place a on. -/
def tail (s : ByteArray) (a : Nat) : ByteArray := s.extract a s.size
theorem zip_to (ss : List St) : zipSt (outsTo ss ss.length) (nextTo ss ss.length) = ss := by
  apply List.ext_getElem?
  intro i
  by_cases h : i < ss.length
  · have h1 : i < (zipSt (outsTo ss ss.length) (nextTo ss ss.length)).length := by simp [zipSt, outsTo, nextTo]; exact h
    rw [List.getElem?_eq_getElem h1, List.getElem?_eq_getElem h]
    simp [zipSt, outsTo, nextTo, stAt, List.getD, List.getElem?_eq_getElem h]
  · rw [List.getElem?_eq_none (by simp [zipSt, outsTo, nextTo]; omega), List.getElem?_eq_none (by omega)]
theorem formed_to {ss : List St} (h8 : Eight ss) : formedB (outsTo ss ss.length) (nextTo ss ss.length) = wfB ss := by
  have := (formed_mk (os := outsTo ss ss.length) (ls := nextTo ss ss.length) (by simp [outsTo, nextTo]) (fun i hi => by
    have hi2 : i < ss.length := by simpa [nextTo] using hi
    rw [show (nextTo ss ss.length).getD i [] = (stAt ss i).next by simp [nextTo, List.getD, List.getElem?_map, List.getElem?_range hi2]]
    exact eight_at h8 hi2)).1
  rw [this, zip_to]

section
variable (s : ByteArray) (w : World)

end

end Go.Proofs.Ytjagijohfkffiab

/- Plain mathematics: the machine of a formula is well formed. -/
namespace Go.Proofs.Ytjagijohfkffiab
set_option linter.unusedVariables false

theorem letters_app {u v : List Nat} (h : LettersL u) (k : LettersL v) : LettersL (u ++ v) := fun x hx => (List.mem_append.1 hx).elim (h x) (k x)
theorem letters_one {a : Nat} (h : a < 8) : LettersL [a] := fun x hx => by simp at hx; omega

/-- A word leads to each state. -/
theorem num_word {n : Nat} {nx : Nat → Nat → Nat} (hn : Numbered n nx) : ∀ i, i < n → ∃ w, LettersL w ∧ runM nx 0 w = i := by
  have key : ∀ p, p ≤ 8 * n → ∀ i, i < met nx p → ∃ w, LettersL w ∧ runM nx 0 w = i := by
    intro p
    induction p with
    | zero =>
      intro _ i hi
      simp only [met] at hi
      exact ⟨[], fun x hx => by simp at hx, by show 0 = i; omega⟩
    | succ p ih =>
      intro hp i hi
      by_cases c : i < met nx p
      · exact ih (by omega) i c
      · simp only [met] at hi
        obtain ⟨h1, h2⟩ := hn.1 p (by omega)
        obtain ⟨w, h3, h4⟩ := ih (by omega) _ h1
        refine ⟨w ++ [p % 8], letters_app h3 (letters_one (Nat.mod_lt _ (by omega))), ?_⟩
        rw [runM_app, h4]
        show nx (p / 8) (p % 8) = i
        omega
  intro i hi
  exact key (8 * n) (Nat.le_refl _) i (by rw [hn.2]; exact hi)

section
variable {ns : List Nd} {n : Nat} {out : Nat → Nat} {nx : Nat → Nat → Nat}

theorem mach_tells (h : Mach ns n out nx) {i : Nat} (hi : i < n) : out i = 0 ∨ out i = 1 ∨ out i = 2 := by
  obtain ⟨w, hw, rfl⟩ := num_word h.num i hi
  exact verdict_lt (h.tells w hw)

/-- What is told for ever stays. -/
theorem mach_stays (h : Mach ns n out nx) {w v : List Nat} (hw : LettersL w) (hv : LettersL v) (ho : out (runM nx 0 w) = 1 ∨ out (runM nx 0 w) = 2) : out (runM nx 0 (w ++ v)) = out (runM nx 0 w) := by
  have h1 := settled_more (A := w) (B := v) (letters_app hw hv) (h.tells w hw) (h.tells _ (letters_app hw hv))
  rcases ho with e | e
  · rw [e]; exact h1.1 e
  · rw [e]; exact h1.2 e
theorem mach_final (h : Mach ns n out nx) {i a : Nat} (hi : i < n) (ha : a < 8) (ho : out i ≠ 0) : nx i a = i := by
  obtain ⟨w, hw, e⟩ := num_word h.num i hi
  have h12 : out i = 1 ∨ out i = 2 := by have := mach_tells h hi; omega
  refine h.apart _ _ (numbered_lt h.num hi ha) hi fun v hv => ?_
  have r1 : runM nx (nx i a) v = runM nx 0 (w ++ ([a] ++ v)) := by rw [runM_app, e]; rfl
  have r2 : runM nx i v = runM nx 0 (w ++ v) := by rw [runM_app, e]
  rw [r1, r2, mach_stays h hw (letters_app (letters_one ha) hv) (by rw [e]; exact h12), mach_stays h hw hv (by rw [e]; exact h12)]

theorem mach_run_lt (h : Mach ns n out nx) {w : List Nat} (hw : LettersL w) : runM nx 0 w < n := run_lt (fun i a hi ha => numbered_lt h.num hi ha) w 0 (numbered_pos h.num) hw

theorem machS_wf {ss : List St} (h : MachS ns ss) (h8 : ss.length ≤ 8) : wfB ss = true := by
  obtain ⟨out, nx, hM, hs⟩ := h
  refine wfB_iff.2 ⟨numbered_pos hM.num, h8, fun i hi => ?_⟩
  have st : stAt ss i = stK (out i) (nx i) := by simp [stAt, List.getD, hs i hi]
  rw [st]
  have ho := mach_tells hM hi
  have key : ∀ a, a < 8 → goesB ss.length i (finB ((out i : Nat) : Int)) ((nx i a : Nat) : Int) = true := fun a ha => by
    have h1 := numbered_lt hM.num hi ha
    unfold goesB
    have e1 : decide ((0 : Int) ≤ ((nx i a : Nat) : Int)) = true := by simp
    have e2 : decide (((nx i a : Nat) : Int) < (ss.length : Int)) = true := by simp; omega
    rw [e1, e2]
    cases hf : finB ((out i : Nat) : Int) with
    | false => rfl
    | true =>
      have h2 : out i ≠ 0 := fun e => by rw [e] at hf; simp [finB] at hf
      rw [mach_final hM hi ha h2]
      simp
  unfold stB stK
  simp only [List.all_cons, List.all_nil, Bool.and_true]
  rw [key 0 (by omega), key 1 (by omega), key 2 (by omega), key 3 (by omega), key 4 (by omega), key 5 (by omega), key 6 (by omega), key 7 (by omega)]
  rcases ho with e | e | e <;> rw [e] <;> rfl

theorem machS_formed {ss : List St} (h : MachS ns ss) (he : Eight ss) (h8 : ss.length ≤ 8) : formedB (outsTo ss ss.length) (nextTo ss ss.length) = true := by
  rw [formed_to he]
  exact machS_wf h h8
end

end Go.Proofs.Ytjagijohfkffiab

/- Plain mathematics: of !f all is the other way round. -/
namespace Go.Proofs.Ytjagijohfkffiab
set_option linter.unusedVariables false

section
variable {ns : List Nd}
end

/-! ### Kinds -/
section
variable {ns : List Nd} {n : Nat} {out : Nat → Nat} {nx : Nat → Nat → Nat}

/-- So many times the loop. -/
def times (B : List Nat) : Nat → List Nat
  | 0 => []
  | k + 1 => times B k ++ B
theorem times_letters {B : List Nat} (h : LettersL B) : ∀ k, LettersL (times B k)
  | 0 => fun x hx => by simp [times] at hx
  | k + 1 => letters_app (times_letters h k) h
theorem times_len (B : List Nat) : ∀ k, (times B k).length = k * B.length
  | 0 => by simp [times]
  | k + 1 => by rw [times, List.length_append, times_len B k, Nat.succ_mul]
theorem times_get {B : List Nat} : ∀ (k i : Nat), i < k * B.length → (times B k).getD i 0 = B.getD (i % B.length) 0
  | 0, i, hi => by omega
  | k + 1, i, hi => by
    rw [times]
    by_cases h : i < k * B.length
    · rw [getD_app_left (by rw [times_len]; exact h)]
      exact times_get k i h
    · rw [getD_app_right (by rw [times_len]; omega), times_len]
      rw [Nat.succ_mul] at hi
      have e : i = B.length * k + (i - k * B.length) := by rw [Nat.mul_comm]; omega
      have e2 : i % B.length = i - k * B.length := by
        conv => lhs; rw [e]
        rw [Nat.mul_add_mod, Nat.mod_eq_of_lt (by omega)]
      rw [e2]
theorem word_times {A B : List Nat} (hb : 0 < B.length) (k : Nat) : Begins (A ++ times B k) (wordAt A B) := fun i hi => by
  rw [List.length_append, times_len] at hi
  unfold wordAt
  by_cases h : i < A.length
  · rw [if_pos h, getD_app_left h]
  · rw [if_neg h, getD_app_right (by omega), times_get k _ (by omega)]

/-- The state behind the stem and so many loops. -/
def spotK (nx : Nat → Nat → Nat) (A B : List Nat) (k : Nat) : Nat := runM nx 0 (A ++ times B k)
theorem spotK_succ (A B : List Nat) (k : Nat) : spotK nx A B (k + 1) = runM nx (spotK nx A B k) B := by
  unfold spotK
  rw [times, ← List.append_assoc, runM_app]

theorem verdict_begins {u : List Nat} (hu : ∀ x ∈ u, x < 8) {x : Nat → Nat} (hL : Letters x) (hb : Begins u x) {v : Nat} (h : Verdict ns u v) : (v = 1 → sem (fun i => i + 1) x ns (ns.length - 1) 0) ∧ (v = 2 → ¬ sem (fun i => i + 1) x ns (ns.length - 1) 0) := by
  have d := verdict_doc hu h
  exact ⟨fun e => d.1.1 e x hL hb, fun e => d.2.1 e x hL hb⟩

theorem begins_pre {u : List Nat} {x : Nat → Nat} (h : Begins u x) : u = pre x u.length := by
  apply List.ext_getElem
  · simp [pre]
  · intro i h1 h2
    have := h i h1
    simp [pre, List.getD, List.getElem?_eq_getElem h1] at this ⊢
    exact this.symm

/-- Behind nine loops what is ever told is told. -/
theorem spot_nine (hM : Mach ns n out nx) (h8 : n ≤ 8) {A B : List Nat} (hA : LettersL A) (hB : LettersL B) (hb : 0 < B.length) {v : Nat} (hv : v = 1 ∨ v = 2) {t : Nat} (ht : Verdict ns (pre (wordAt A B) t) v) : out (spotK nx A B 9) = v := by
  have hL : Letters (wordAt A B) := letters_wordAt (letters_app hA hB)
  have hlt : ∀ k, spotK nx A B k < n := fun k => mach_run_lt hM (letters_app hA (times_letters hB k))
  have late : ∀ k, t ≤ A.length + k * B.length → out (spotK nx A B k) = v := fun k hk => by
    have hb2 := word_times (A := A) hb k
    have hlen : (A ++ times B k).length = A.length + k * B.length := by rw [List.length_append, times_len]
    have e := begins_pre hb2
    rw [hlen] at e
    obtain ⟨d, hd⟩ : ∃ d, A.length + k * B.length = t + d := ⟨A.length + k * B.length - t, by omega⟩
    have split : ∀ d, ∃ w, LettersL w ∧ pre (wordAt A B) (t + d) = pre (wordAt A B) t ++ w := fun d => by
      induction d with
      | zero => exact ⟨[], fun x hx => by simp at hx, by simp⟩
      | succ d ih =>
        obtain ⟨w, h1, h2⟩ := ih
        exact ⟨w ++ [wordAt A B (t + d)], letters_app h1 (letters_one (hL _)), by rw [← Nat.add_assoc, pre_succ, h2, List.append_assoc]⟩
    obtain ⟨w, hw, e2⟩ := split d
    have hp : LettersL (pre (wordAt A B) t) := pre_lt hL t
    have h1 : out (runM nx 0 (pre (wordAt A B) t)) = v := verdict_fun (hM.tells _ hp) ht
    have h2 := mach_stays hM hp hw (by rw [h1]; exact hv)
    show out (runM nx 0 (A ++ times B k)) = v
    rw [e, hd, e2, h2, h1]
  apply Classical.byContradiction
  intro hne
  have step : ∀ k, out (spotK nx A B k) = v → out (spotK nx A B (k + 1)) = v := fun k hk => by
    have := mach_stays hM (letters_app hA (times_letters hB k)) hB (by show out (spotK nx A B k) = 1 ∨ _; rw [hk]; rcases hv with rfl | rfl; exact Or.inl rfl; exact Or.inr hk)
    rw [List.append_assoc] at this
    exact this.trans hk
  have up : ∀ d k, out (spotK nx A B k) = v → out (spotK nx A B (k + d)) = v := fun d => by
    induction d with
    | zero => exact fun k h => h
    | succ d ih => exact fun k h => step _ (ih k h)
  have no : ∀ k, k ≤ 9 → out (spotK nx A B k) ≠ v := fun k hk he => hne (by have := up (9 - k) k he; rwa [show k + (9 - k) = 9 by omega] at this)
  obtain ⟨i, j, hij, hj, e⟩ : ∃ i j, i < j ∧ j ≤ 9 ∧ spotK nx A B i = spotK nx A B j := by
    apply Classical.byContradiction
    intro hc
    have nd : ((List.range 10).map (spotK nx A B)).Nodup := by
      rw [List.nodup_iff_pairwise_ne, List.pairwise_map]
      have hp : (List.range 10).Pairwise (· < ·) := List.pairwise_lt_range
      refine List.Pairwise.imp_of_mem ?_ hp
      intro a b ha hb' hab e
      have : b < 10 := by simpa using hb'
      exact hc ⟨a, b, hab, by omega, e⟩
    have := nodup_le n _ nd (fun b hb' => by
      obtain ⟨k, _, rfl⟩ := List.mem_map.1 hb'
      exact hlt k)
    simp at this
    omega
  have per : ∀ d, spotK nx A B (i + d) = spotK nx A B (j + d) := fun d => by
    induction d with
    | zero => exact e
    | succ d ih => rw [← Nat.add_assoc, ← Nat.add_assoc, spotK_succ, spotK_succ, ih]
  have often : ∀ q, spotK nx A B (i + q * (j - i)) = spotK nx A B i := fun q => by
    induction q with
    | zero => simp
    | succ q ih =>
      have := per (q * (j - i))
      rw [ih] at this
      rw [this, Nat.succ_mul]
      congr 1
      omega
  have hk := late (i + (t + 1) * (j - i)) (by
    have h1 : (t + 1) * 1 ≤ (t + 1) * (j - i) := Nat.mul_le_mul_left _ (by omega)
    have h2 : (i + (t + 1) * (j - i)) * 1 ≤ (i + (t + 1) * (j - i)) * B.length := Nat.mul_le_mul_left _ hb
    omega)
  rw [often] at hk
  exact no i (by omega) hk

/-- What the machine tells behind nine loops, by the kind of the formula and whether it holds of the word. -/
theorem kinds_told (hM : Mach ns n out nx) (h8 : n ≤ 8) {A B : List Nat} (hA : LettersL A) (hB : LettersL B) (hb : 0 < B.length) {sf co lv y : Bool} (hk : Kind ns sf co lv) (hy : y = true ↔ sem (fun i => i + 1) (wordAt A B) ns (ns.length - 1) 0) :
    (sf = true → y = false → out (spotK nx A B 9) = 2) ∧ (co = true → y = true → out (spotK nx A B 9) = 1) ∧ (out (spotK nx A B 9) = 2 → y = false) ∧ (out (spotK nx A B 9) = 1 → y = true) := by
  have hL : Letters (wordAt A B) := letters_wordAt (letters_app hA hB)
  have h9 := hM.tells (A ++ times B 9) (letters_app hA (times_letters hB 9))
  have hv := verdict_begins (letters_app hA (times_letters hB 9)) hL (word_times hb 9) h9
  refine ⟨fun h1 h2 => ?_, fun h1 h2 => ?_, fun h => ?_, fun h => ?_⟩
  · have h3 := hk.safe.1 h1
    have : ∃ t, Verdict ns (pre (wordAt A B) t) 2 := Classical.byContradiction fun c => h3 ⟨wordAt A B, hL, by rw [← hy, h2], fun k hk => c ⟨k, hk⟩⟩
    obtain ⟨t, ht⟩ := this
    exact spot_nine hM h8 hA hB hb (Or.inr rfl) ht
  · have h3 := hk.cosafe.1 h1
    have : ∃ t, Verdict ns (pre (wordAt A B) t) 1 := Classical.byContradiction fun c => h3 ⟨wordAt A B, hL, by rw [← hy, h2], fun k hk => c ⟨k, hk⟩⟩
    obtain ⟨t, ht⟩ := this
    exact spot_nine hM h8 hA hB hb (Or.inl rfl) ht
  · cases e : y with
    | false => rfl
    | true => exact absurd (hy.1 e) (hv.2 h)
  · exact hy.2 (hv.1 h)

theorem kinds_live (hM : Mach ns n out nx) {sf co lv : Bool} (hk : Kind ns sf co lv) : lv = true ↔ ∀ i, i < n → out i ≠ 2 := by
  rw [hk.live]
  constructor
  · intro h i hi e
    obtain ⟨w, hw, rfl⟩ := num_word hM.num i hi
    have := hM.tells w hw
    rw [e] at this
    exact h w hw this
  · intro h u hu hv
    exact h _ (mach_run_lt hM hu) (verdict_fun (hM.tells u hu) hv)
end

end Go.Proofs.Ytjagijohfkffiab

/- The kind of Gp; the walks of classing and other. -/
namespace Go.Proofs.Ytjagijohfkffiab
open Go.RowKit
set_option linter.unusedVariables false

theorem gp_kind {sf co lv : Bool} (h : Kind gpN sf co lv) : sf = true ∧ co = false ∧ lv = false := by
  refine ⟨h.safe.2 ?_, ?_, ?_⟩
  · rintro ⟨x, hL, hs, hno⟩
    have h1 : ¬ ∀ t, (x t).testBit 0 = true := fun c => by
      have := hs.1 ((gp_sem x).2 c)
      cases this
    have h2 : ∃ t, x t % 2 = 0 := Classical.byContradiction fun c => h1 fun t => (bit0 _).2 (by
      have : ¬ x t % 2 = 0 := fun e => c ⟨t, e⟩
      omega)
    obtain ⟨t, ht⟩ := h2
    have h3 := gp_tells (pre x (t + 1)) (pre_lt hL (t + 1))
    rcases gp_run0 (pre x (t + 1)) with ⟨_, h5⟩ | ⟨h4, _⟩
    · have := h5 (x t) (by rw [pre_succ]; simp)
      omega
    · rw [h4] at h3
      exact hno (t + 1) h3
  · cases e : co with
    | false => rfl
    | true =>
      exfalso
      refine h.cosafe.1 e ⟨fun _ => 1, fun _ => by simp, ⟨fun _ => rfl, fun _ => (gp_sem _).2 fun t => by simp⟩, fun k hk => ?_⟩
      have h3 := gp_tells (pre (fun _ => 1) k) (pre_lt (fun _ => by simp) k)
      have := verdict_fun h3 hk
      unfold gpO at this
      split at this <;> omega
  · cases e : lv with
    | false => rfl
    | true =>
      exfalso
      have h3 := gp_tells [0] (fun x hx => by simp at hx; omega)
      exact h.live.1 e [0] (fun x hx => by simp at hx; omega) h3

set_option maxHeartbeats 1000000 in
set_option maxRecDepth 100000 in
theorem classing_any (w : World) : Calls Try.prog 9 #[] w fun e w' => e = .returned (.bool true) ∧ Below w.heap.size w w' := by
  have C1 := fun W => class_any ⟨#[71, 112]⟩ W (by decide)
  unfold Classed at C1
  rw [gp_parse] at C1
  go_enter Try.func9, Try.ntmps9
  go_wp2_with fail
  refine (C1 _).mono ?_
  rintro e w1 ⟨sf, co, lv, rfl, q, _, hb1⟩
  obtain ⟨rfl, rfl, rfl⟩ := gp_kind (q trivial)
  have HB := hid (hb1.trans (((Below.refl w1.heap.size w1).alloc (Nat.le_refl _) (.cells #[.bool true, .bool false, .bool false] 30)).mono hb1.size))
  clear C1 hb1 q
  go_wp2
  go_ret
  exact ⟨rfl, HB.out⟩

end Go.Proofs.Ytjagijohfkffiab
