import Derived.Test.YtjagijohfkffiaaLM23
import Derived.Test.YtjagijohfkffiaaLM25
import Derived.Test.YtjagijohfkffiaaLM27
import Derived.Test.YtjagijohfkffiaaLM28
import Derived.Test.YtjagijohfkffiaaLM29
import Derived.Deep.QuietTactic
import Derived.BigQuiet

/- The walks of verdictlaw's sameInts, sameLists, sameMachine: two that are alike. -/
namespace Go.Proofs.Ytjagijohfkffiaa
open Go.RowKit
set_option linter.unusedVariables false

theorem Ints.drewN {w : World} {a : Option Addr} {l c : Nat} {zs : List Int} (h : Ints w a l c zs) (n : Nat) : Ints (w.drewN n) a l c zs := h.below (below_drewN (Below.refl _ _) n)

/-- The lists that came out, as they are read. -/
theorem Lies.ints {w : World} {B : Nat} {v1 v2 : Value} {V : Nat → Value} {ss : List St} {j : Nat} (h : Lies w B v1 v2 V ss j) : ∃ a c, v1 = .slice a j c ∧ Ints w a j c (outsTo ss j) := by
  have hl : (outsTo ss j).length = j := by simp [outsTo]
  rcases h.out.2 with ⟨rfl, rfl⟩ | ⟨g, cap, cur, rfl, hb, hh, hc, hm, _⟩
  · exact ⟨none, 0, rfl, hl, Nat.le_refl _, by omega, fun _ => ⟨rfl, rfl⟩, fun h => by omega⟩
  · refine ⟨_, cap, rfl, hl, hc, by unfold maxLen at hm; omega, fun h => by simp at h, fun _ => ⟨g, 0, rfl, (Array.getElem?_eq_some_iff.1 hh).1, fun i hi => ?_⟩⟩
    rw [Nat.zero_add, h.out.cellAt i (by omega)]
    simp [intVs, List.getD, List.getElem?_eq_getElem (show i < (outsTo ss j).length by omega)]
def nextTo (ss : List St) (j : Nat) : List (List Int) := (List.range j).map fun i => (stAt ss i).next
theorem own_row_ints {w : World} {B n : Nat} {v : Value} {zs : List Int} (h : w.ownsRow B 3 1 v n (intVs zs)) : ∃ a c, v = .slice a n c ∧ Ints w a n c zs := by
  have hl : zs.length = n := by have := h.1; simp [intVs] at this; exact this
  rcases h.2 with ⟨rfl, rfl⟩ | ⟨g, cap, cur, rfl, hb, hh, hc, hm, _⟩
  · exact ⟨none, 0, rfl, hl, Nat.le_refl _, by omega, fun _ => ⟨rfl, rfl⟩, fun h => by omega⟩
  · refine ⟨_, cap, rfl, hl, hc, by unfold maxLen at hm; omega, fun h => by simp at h, fun _ => ⟨g, 0, rfl, (Array.getElem?_eq_some_iff.1 hh).1, fun i hi => ?_⟩⟩
    rw [Nat.zero_add, h.cellAt i (by omega)]
    simp [intVs, List.getD, List.getElem?_eq_getElem (show i < zs.length by omega)]
theorem Lies.lists {w : World} {B : Nat} {v1 v2 : Value} {V : Nat → Value} {ss : List St} {j : Nat} (h : Lies w B v1 v2 V ss j) : ∃ a c, v2 = .slice a j c ∧ Lists w a j c (nextTo ss j) := by
  have hl : (nextTo ss j).length = j := by simp [nextTo]
  rcases h.nxt.2 with ⟨rfl, rfl⟩ | ⟨g, cap, cur, rfl, hb, hh, hc, hm, _⟩
  · exact ⟨none, 0, rfl, hl, Nat.le_refl _, by omega, fun _ => ⟨rfl, rfl⟩, fun h => by omega⟩
  · refine ⟨_, cap, rfl, hl, hc, by unfold maxLen at hm; omega, fun h => by simp at h, fun _ => ⟨g, 0, rfl, (Array.getElem?_eq_some_iff.1 hh).1, fun i hi => ?_⟩⟩
    obtain ⟨a, c, hv, hi2⟩ := own_row_ints (h.row i hi)
    refine ⟨a, 8, c, ?_, ?_⟩
    · rw [Nat.zero_add, h.nxt.cellAt i (by omega)]
      simp [List.getElem?_map, List.getElem?_range hi, hv]
    · rw [show (nextTo ss j).getD i [] = (stAt ss i).next by simp [nextTo, List.getD, List.getElem?_map, List.getElem?_range hi]]
      exact hi2

end Go.Proofs.Ytjagijohfkffiaa

/- The machine of Gp; the walk of watching. -/
namespace Go.Proofs.Ytjagijohfkffiaa
open Go.RowKit
set_option linter.unusedVariables false

def gpN : List Nd := [⟨112, 0, 0⟩, ⟨71, 0, 0⟩]
def gpO (i : Nat) : Nat := if i = 0 then 0 else 2
def gpX (i a : Nat) : Nat := if i = 0 ∧ a % 2 = 1 then 0 else 1

theorem gp_run1 : ∀ w : List Nat, runM gpX 1 w = 1
  | [] => rfl
  | a :: w => by
    show runM gpX (gpX 1 a) w = 1
    rw [show gpX 1 a = 1 by simp [gpX]]
    exact gp_run1 w
theorem gp_run0 : ∀ w : List Nat, (runM gpX 0 w = 0 ∧ ∀ x ∈ w, x % 2 = 1) ∨ (runM gpX 0 w = 1 ∧ ∃ x ∈ w, x % 2 = 0)
  | [] => Or.inl ⟨rfl, fun x hx => by simp at hx⟩
  | a :: w => by
    by_cases h : a % 2 = 1
    · have e : runM gpX 0 (a :: w) = runM gpX 0 w := by show runM gpX (gpX 0 a) w = _; rw [show gpX 0 a = 0 by simp [gpX, h]]
      rw [e]
      rcases gp_run0 w with ⟨h1, h2⟩ | ⟨h1, x, h2, h3⟩
      · exact Or.inl ⟨h1, fun x hx => by
          rcases List.mem_cons.1 hx with rfl | hx
          · exact h
          · exact h2 x hx⟩
      · exact Or.inr ⟨h1, x, List.mem_cons_of_mem _ h2, h3⟩
    · have e : runM gpX 0 (a :: w) = 1 := by
        show runM gpX (gpX 0 a) w = _
        rw [show gpX 0 a = 1 by simp [gpX, h]]
        exact gp_run1 w
      exact Or.inr ⟨e, a, List.mem_cons_self .., by omega⟩
theorem bit0 (x : Nat) : x.testBit 0 = true ↔ x % 2 = 1 := by simp [Nat.testBit_zero]

theorem gp_tells (w : List Nat) (hw : LettersL w) : Verdict gpN w (gpO (runM gpX 0 w)) := by
  have lt : ∀ d, d < 8 → Letters (fun i => w.getD i d) := fun d hd t => by
    show w.getD t d < 8
    rw [List.getD]
    cases e : w[t]? with
    | none => simpa using hd
    | some y => exact hw y (List.mem_of_getElem? e)
  have bg : ∀ d, Begins w (fun i => w.getD i d) := fun d i hi => by simp [List.getD, List.getElem?_eq_getElem hi]
  rcases gp_run0 w with ⟨h1, h2⟩ | ⟨h1, x, h2, h3⟩
  · rw [h1]
    refine Or.inr (Or.inr ⟨rfl, ⟨fun i => w.getD i 1, lt 1 (by omega), bg 1, ?_⟩, ⟨fun i => w.getD i 0, lt 0 (by omega), bg 0, ?_⟩⟩)
    · refine ⟨fun _ => rfl, fun _ => (gp_sem _).2 fun t => ?_⟩
      rw [bit0, List.getD]
      cases e : w[t]? with
      | none => rfl
      | some y => exact h2 y (List.mem_of_getElem? e)
    · refine ⟨fun h => ?_, fun h => (by cases h)⟩
      have := (gp_sem _).1 h w.length
      rw [bit0, List.getD, List.getElem?_eq_none (Nat.le_refl _)] at this
      simp at this
  · rw [h1]
    refine Or.inl ⟨rfl, ?_⟩
    rintro ⟨y, _, hb, hs⟩
    obtain ⟨i, hi, e⟩ := List.getElem_of_mem h2
    have h4 := (gp_sem y).1 (hs.2 rfl) i
    rw [hb i hi, bit0] at h4
    simp [List.getD, List.getElem?_eq_getElem hi, e] at h4
    omega

theorem gp_mach : Mach gpN 2 gpO gpX := by
  refine ⟨⟨by decide, by decide⟩, fun i j hi hj hl => ?_, gp_tells⟩
  have h := hl [] (fun x hx => by simp at hx)
  simp only [runM] at h
  have : i = 0 ∨ i = 1 := by omega
  have : j = 0 ∨ j = 1 := by omega
  rcases ‹i = 0 ∨ i = 1› with rfl | rfl <;> rcases ‹j = 0 ∨ j = 1› with rfl | rfl <;> simp_all [gpO]

def gpSS : List St := [⟨0, [1, 0, 1, 0, 1, 0, 1, 0]⟩, ⟨2, [1, 1, 1, 1, 1, 1, 1, 1]⟩]
theorem gp_states {ss : List St} (h : MachS gpN ss) : ss = gpSS := by
  obtain ⟨out, nx, hM, hs⟩ := h
  obtain ⟨hl, e1, e2⟩ := mach_fun hM gp_mach
  have s : ∀ c, c < 2 → ss[c]? = some (stK (gpO c) (gpX c)) := fun c hc => by
    rw [hs c (by omega)]
    congr 1
    exact stK_inj.2 ⟨e1 c (by omega), fun a ha => e2 c a (by omega) ha⟩
  apply List.ext_getElem?
  intro i
  by_cases h2 : i < 2
  · rw [s i h2]
    have : i = 0 ∨ i = 1 := by omega
    rcases this with rfl | rfl <;> rfl
  · rw [List.getElem?_eq_none (by omega), List.getElem?_eq_none (by show 2 ≤ i; omega)]
theorem gp_small : ¬ Big gpN := fun h => by
  have := h _ _ _ gp_mach
  omega

def gpB : ByteArray := ⟨#[2, 0, 1, 0, 1, 0, 1, 0, 1, 0, 2, 1, 1, 1, 1, 1, 1, 1, 1]⟩
theorem gp_write : writeStr (outsTo gpSS 2) (nextTo gpSS 2) = gpB ∧ writeErr (outsTo gpSS 2) (nextTo gpSS 2) = 0 := by decide +kernel
theorem gp_read : readB gpB = true ∧ readErr gpB = 0 ∧ bt gpB 0 = 2 := by decide +kernel
theorem gp_runs : runVal gpB [1, 0] = 2 ∧ runErr gpB [1, 0] = 0 := by decide +kernel

theorem two_ints (w : World) (a b : Int) : Ints (w.alloc (.cells #[.int .i64 a, .int .i64 b] 3)) (some ⟨w.heap.size, 0, none⟩) 2 2 [a, b] := by
  refine ⟨rfl, Nat.le_refl _, by omega, fun h => by simp at h, fun _ => ⟨w.heap.size, 0, rfl, by simp, fun i hi => ?_⟩⟩
  have : i = 0 ∨ i = 1 := by omega
  rcases this with rfl | rfl <;> simp

set_option maxHeartbeats 1000000 in
set_option maxRecDepth 100000 in
theorem watching_any (w : World) : Calls Try.prog 40 #[] w fun e w' => e = .returned (.bool true) ∧ Below w.heap.size w w' := by
  have C1 := fun W => watch_any ⟨#[71, 112]⟩ W (by decide)
  unfold Watched at C1
  rw [gp_parse] at C1
  have C3 := fun W => read_any gpB W (by decide)
  unfold ReadDone at C3
  rw [gp_read.2.1, gp_read.2.2] at C3
  have C4 : ∀ (W : World) (n : Nat), W.heap.size = n → Calls Try.prog 37 #[.string gpB, .slice (some ⟨n, 0, none⟩) 2 2] (W.alloc (.cells #[.int .i64 1, .int .i64 0] 3)) fun e w' => e = .returned (.tuple #[.int .i64 2, .int .i64 0]) ∧ Below (W.alloc (.cells #[.int .i64 1, .int .i64 0] 3)).heap.size (W.alloc (.cells #[.int .i64 1, .int .i64 0] 3)) w' := fun W n hn => by
    subst hn
    have h9 := vrun_any gpB (some ⟨W.heap.size, 0, none⟩) 2 2 [1, 0] _ (by decide) (two_ints W 1 0)
    rw [gp_runs.1, gp_runs.2] at h9
    exact h9
  go_enter Try.func40, Try.ntmps40
  go_wp2_with fail
  refine (C1 _).mono ?_
  rintro e w1 ⟨v1, v2, er, rfl, _, q1, hb1⟩
  rcases q1 trivial with ⟨rfl, ss, V, hL, _, _, hM⟩ | ⟨_, _, _, hB⟩
  · obtain rfl := gp_states hM
    obtain ⟨a1, c1, rfl, I1⟩ := hL.ints
    obtain ⟨a2, c2, rfl, L2⟩ := hL.lists
    have ba := (Below.refl w1.heap.size w1).alloc (Nat.le_refl _) (.cells #[.slice a1 gpSS.length c1, .slice a2 gpSS.length c2] 46)
    have C2 := write_any a1 a2 gpSS.length c1 gpSS.length c2 (outsTo gpSS 2) (nextTo gpSS 2) _ (I1.below ba) (L2.below ba)
    rw [gp_write.1, gp_write.2] at C2
    have T1 := two_new w1 (.slice a1 gpSS.length c1) (.slice a2 gpSS.length c2) 46
    have HB1 := hid (hb1.trans (ba.mono hb1.size))
    have hs1 := hb1.size
    clear C1 q1 hM hL I1 L2 ba hb1
    rw [show gpSS.length = 2 from rfl] at *
    go_wp2_with fail
    refine C2.mono ?_
    rintro e w2 ⟨rfl, hb2⟩
    have T2 := T1.below hb2 (by simp)
    have HB2 := hid (HB1.out.trans (hb2.mono HB1.out.size))
    have hs2 := T2.lt
    clear C2 T1 hb2 HB1
    go_wp2_with fail
    refine (C3 _).mono ?_
    rintro e w3 ⟨hb3, k1, k2, rfl, hk⟩
    rcases hk with ⟨h0, _⟩ | ⟨_, V3, hL3⟩
    · rw [gp_read.1] at h0
      cases h0
    · obtain ⟨a3, c3, rfl⟩ := own_slice hL3.out
      obtain ⟨a4, c4, rfl⟩ := own_slice hL3.nxt
      have T3 := T2.below hb3 hs2
      have HB3 := hid (HB2.out.trans (hb3.mono HB2.out.size))
      have ba := (Below.refl w3.heap.size w3).alloc (Nat.le_refl _) (.cells #[.slice a3 2 c3, .slice a4 2 c4] 46)
      have T4 := T3.below ba T3.lt
      have U4 := two_new w3 (.slice a3 2 c3) (.slice a4 2 c4) 46
      have HB4 := hid (HB3.out.trans (ba.mono HB3.out.size))
      have hs3 := T3.lt
      clear C3 T2 T3 hb3 HB2 HB3 ba hL3
      go_wp2_with fail
      refine (C4 _ (w3.heap.size + 1) (by simp)).mono ?_
      rintro e w5 ⟨rfl, hb5⟩
      simp only [World.size_alloc] at hb5
      have bz := (((Below.refl w3.heap.size w3).alloc (Nat.le_refl _) (.cells #[.slice a3 2 c3, .slice a4 2 c4] 46)))
      have T5 := (T4.below ((Below.refl (w3.heap.size + 1) _).alloc (by simp) (.cells #[.int .i64 1, .int .i64 0] 3)) (by omega)).below hb5 (by omega)
      have U5 := (U4.below ((Below.refl (w3.heap.size + 1) _).alloc (by simp) (.cells #[.int .i64 1, .int .i64 0] 3)) (by omega)).below hb5 (by omega)
      have HB5 := hid ((HB4.out.alloc (by have := HB4.out.size; simp at this; simp; omega) (.cells #[.int .i64 1, .int .i64 0] 3)).trans (hb5.mono (by have := HB4.out.size; simp at this; omega)))
      have x0 := T5.c0
      have y0 := U5.c0
      clear C4 T4 U4 T5 U5 hb5 HB4 bz
      go_wp2
      go_ret
      exact ⟨rfl, HB5.out⟩
  · exact absurd hB gp_small

end Go.Proofs.Ytjagijohfkffiaa

/- The walks of the reference's Formed and Write. -/
namespace Go.Proofs.Ytjagijohfkffiaa
open Go.RowKit
set_option linter.unusedVariables false

def rB (n i : Nat) (o k : Int) : Bool := decide (0 ≤ k) && decide (k < n) && (decide (o = 0) || decide (k = i))
def bsB (o : Int) (l : List Int) : Bool := decide (l.length = 8) && decide (0 ≤ o) && decide (o ≤ 2)
def rowB (n i : Nat) (o : Int) (l : List Int) : Bool := bsB o l && l.all (rB n i o)

theorem rB_goes {n i : Nat} {o k : Int} (h0 : 0 ≤ o) (h2 : o ≤ 2) : rB n i o k = goesB n i (finB o) k := by
  unfold rB goesB finB
  have : o = 0 ∨ o = 1 ∨ o = 2 := by omega
  rcases this with rfl | rfl | rfl <;> simp
theorem rowB_st {n i : Nat} {o : Int} {l : List Int} : rowB n i o l = (decide (l.length = 8) && stB n i ⟨o, l⟩) := by
  unfold rowB bsB stB
  by_cases h0 : 0 ≤ o
  · by_cases h2 : o ≤ 2
    · have e : (rB n i o) = goesB n i (finB o) := funext fun k => rB_goes h0 h2
      have : o = 0 ∨ o = 1 ∨ o = 2 := by omega
      rw [e]
      rcases this with rfl | rfl | rfl <;> simp [finB]
    · simp [finB, h2]
      intro h h3
      omega
  · simp [finB, h0]
    intro h h3
    omega
theorem formed_rows {os : List Int} {ls : List (List Int)} (hl : ls.length = os.length) (h1 : 1 ≤ os.length) (h8 : os.length ≤ 8) : formedB os ls = true ↔ ∀ i, i < os.length → rowB os.length i (os.getD i 0) (ls.getD i []) = true := by
  constructor
  · intro h i hi
    have e := formed_len h
    rw [rowB_st, e.2.1 i (by omega)]
    have := (wfB_iff.1 e.2.2).2.2 i (by rw [zip_len hl]; exact hi)
    rw [zip_len hl, zip_at hl hi] at this
    rw [this]; rfl
  · intro h
    have e2 : ∀ i, i < ls.length → (ls.getD i []).length = 8 := fun i hi => by
      have := h i (by omega)
      rw [rowB_st] at this
      simp at this
      simpa using this.1
    rw [(formed_mk hl e2).1, wfB_iff, zip_len hl]
    refine ⟨h1, h8, fun i hi => ?_⟩
    have := h i hi
    rw [rowB_st] at this
    rw [zip_at hl hi]
    simp only [Bool.and_eq_true] at this
    exact this.2

section
variable (a1 a2 : Option Addr) (l1 c1 l2 c2 : Nat) (os : List Int) (ls : List (List Int)) (w : World)

end

end Go.Proofs.Ytjagijohfkffiaa

/- The walk of verdictkeep's formed. -/
namespace Go.Proofs.Ytjagijohfkffiaa
open Go.RowKit
set_option linter.unusedVariables false

section
variable (a1 a2 : Option Addr) (l1 c1 l2 c2 : Nat) (os : List Int) (ls : List (List Int)) (w : World)

set_option maxHeartbeats 400000 in
theorem kformed_bad (h1 : Ints w a1 l1 c1 os) (h2 : Lists w a2 l2 c2 ls) (h : l1 = 0 ∨ 8 < l1 ∨ l2 ≠ l1) : Calls Try.prog 41 #[.agg #[.slice a1 l1 c1, .slice a2 l2 c2]] w fun e w' => e = .returned (.bool (formedB os ls)) ∧ Below w.heap.size w w' := by
  have E : Hid (formedB os ls = false) := hid (formed_no fun e => by
    have e2 := formed_len e
    have e3 := wfB_iff.1 e2.2.2
    rw [zip_len e2.1, h1.hlen] at e3
    have := e2.1
    rw [h1.hlen, h2.hlen] at this
    omega)
  have m1 := h1.hmax
  have m3 := h1.hcap
  have m2 := h2.hmax
  have m4 := h2.hcap
  by_cases k1 : l1 = 0
  · subst k1
    go_enter Try.func41, Try.ntmps41
    go_wp2_with fail
    go_ret
    exact ⟨by rw [E.out]; rfl, (Below.refl _ _).alloc (Nat.le_refl _) _⟩
  have q1 : decide ((l1 : Int) < 1) = false := by simp; omega
  by_cases k2 : 8 < l1
  · have q2 : (8 : Int) < (l1 : Int) := by omega
    go_enter Try.func41, Try.ntmps41
    go_wp2_with fail
    go_ret
    exact ⟨by rw [E.out]; rfl, (Below.refl _ _).alloc (Nat.le_refl _) _⟩
  have q2 : decide ((8 : Int) < (l1 : Int)) = false := by simp; omega
  have k3 : ((l2 : Int) != (l1 : Int)) = true := bne_iff_ne.2 (by omega)
  go_enter Try.func41, Try.ntmps41
  go_wp2_with fail
  go_ret
  exact ⟨by rw [E.out]; rfl, (Below.refl _ _).alloc (Nat.le_refl _) _⟩

set_option maxHeartbeats 4000000 in
set_option maxRecDepth 100000 in
theorem kformed_walk (h1 : Ints w a1 l1 c1 os) (h2 : Lists w a2 l1 c2 ls) (hp : 1 ≤ l1) (h8 : l1 ≤ 8) : Calls Try.prog 41 #[.agg #[.slice a1 l1 c1, .slice a2 l1 c2]] w fun e w' => e = .returned (.bool (formedB os ls)) ∧ Below w.heap.size w w' := by
  have m1 := h1.hmax
  have m3 := h1.hcap
  have m2 := h2.hmax
  have m4 := h2.hcap
  have L1 := h1.hlen
  have L2 := h2.hlen
  have q1 : decide ((l1 : Int) < 1) = false := by simp; omega
  have q2 : decide ((8 : Int) < (l1 : Int)) = false := by simp; omega
  have HF := hid (formed_rows (os := os) (ls := ls) (by omega) (by omega) (by omega))
  rw [L1] at HF
  obtain ⟨b1, o1, rfl, hlt1, hc1⟩ := h1.hcell (by omega)
  obtain ⟨b2, o2, rfl, hlt2, hc2⟩ := h2.hcell (by omega)
  have T0 := hid (two_new w (.slice (some ⟨b1, o1, none⟩) l1 c1) (.slice (some ⟨b2, o2, none⟩) l1 c2) 46)
  have BA := hid ((Below.refl w.heap.size w).alloc (Nat.le_refl _) (.cells #[.slice (some ⟨b1, o1, none⟩) l1 c1, .slice (some ⟨b2, o2, none⟩) l1 c2] 46))
  have NO : Hid (∀ i, i < l1 → rowB l1 i (os.getD i 0) (ls.getD i []) = false → formedB os ls = false) := hid (fun i hi hr => formed_no fun e => by
    have := HF.out.1 e i hi
    rw [hr] at this
    cases this)
  have x0 := T0.out.c0
  have x1 := T0.out.c1
  go_enter Try.func41, Try.ntmps41
  go_wp2_with fail
  go_loopw [4] (fun i wr => ∃ (j : Nat), j ≤ l1 ∧ i = .int .i64 j ∧ wr = w.alloc (.cells #[.slice (some ⟨b1, o1, none⟩) l1 c1, .slice (some ⟨b2, o2, none⟩) l1 c2] 46) ∧ Hid (∀ m, m < j → rowB l1 m (os.getD m 0) (ls.getD m []) = true)) (fun i _ => l1 - (intOf i).toNat)
  case atStart => exact ⟨0, Nat.zero_le _, rfl, rfl, hid (fun m hm => by omega)⟩
  case round =>
    obtain ⟨j, hj, rfl, rfl, HI⟩ := hrel
    by_cases hlt : j < l1
    · obtain ⟨ra, rl, rc, cr, hr⟩ := hc2 j hlt
      have cr' := (BA.out.cell (p := ⟨b2, o2 + j, none⟩) hlt2).trans cr
      have cO := (BA.out.cell (p := ⟨b1, o1 + j, none⟩) hlt1).trans (hc1 j hlt)
      have rl' := hr.hlen
      have rcap := hr.hcap
      have rmax := hr.hmax
      have NOJ := hid (NO.out j hlt)
      generalize hrow : ls.getD j [] = row at *
      generalize ho : os.getD j 0 = o at *
      have HRW := hid hrow
      have HOW := hid ho
      clear hrow ho
      cases hbs : bsB o row with
      | false =>
        have HN : Hid (formedB os ls = false) := hid (NOJ.out (by unfold rowB; rw [hbs]; rfl))
        unfold bsB at hbs
        by_cases g1 : o < 0
        · go_wp2_with fail
          go_ret
          exact ⟨by rw [HN.out]; rfl, BA.out⟩
        · have g1' : decide (o < 0) = false := by simp; omega
          by_cases g2 : 2 < o
          · go_wp2_with fail
            go_ret
            exact ⟨by rw [HN.out]; rfl, BA.out⟩
          · have g2' : decide (2 < o) = false := by simp; omega
            have g3 : ¬ rl = 8 := fun e => by
              have : decide (row.length = 8) = true := by simp; omega
              simp [this, show (0 : Int) ≤ o by omega, show o ≤ 2 by omega] at hbs
            have g3' : ((rl : Int) != 8) = true := bne_iff_ne.2 (by omega)
            go_wp2_with fail
            go_ret
            exact ⟨by rw [HN.out]; rfl, BA.out⟩
      | true =>
        have HBS := hid hbs
        unfold bsB at hbs
        simp only [Bool.and_eq_true, decide_eq_true_eq] at hbs
        obtain ⟨⟨e8, y0⟩, y2⟩ := hbs
        obtain rfl : rl = 8 := by omega
        have y0' : decide (o < 0) = false := by simp; omega
        have y2' : decide (2 < o) = false := by simp; omega
        obtain ⟨br, or, rfl, hltr, hcr⟩ := hr.hcell (by omega)
        go_wp2_with fail
        go_loopw [5] (fun i wr => ∃ (a : Nat), a ≤ 8 ∧ i = .int .i64 a ∧ wr = w.alloc (.cells #[.slice (some ⟨b1, o1, none⟩) l1 c1, .slice (some ⟨b2, o2, none⟩) l1 c2] 46) ∧ Hid (∀ m, m < a → rB l1 j o (row.getD m 0) = true)) (fun i _ => 8 - (intOf i).toNat)
        case atStart => exact ⟨0, Nat.zero_le _, rfl, rfl, hid (fun m hm => by omega)⟩
        case round =>
          obtain ⟨a, ha, rfl, rfl, HA⟩ := hrel
          by_cases hla : a < 8
          · have cK := (BA.out.cell (p := ⟨br, or + a, none⟩) hltr).trans (hcr a hla)
            have HNA : Hid (rB l1 j o (row.getD a 0) = false → formedB os ls = false) := hid (fun hf => NOJ.out (by
              unfold rowB
              rw [HBS.out, Bool.true_and]
              rw [Bool.eq_false_iff]
              intro hall
              rw [List.all_eq_true] at hall
              have := hall (row.getD a 0) (by
                rw [List.getD, List.getElem?_eq_getElem (show a < row.length by omega)]
                exact List.getElem_mem _)
              rw [hf] at this
              cases this))
            have HNX : Hid (rB l1 j o (row.getD a 0) = true → ∀ m, m < a + 1 → rB l1 j o (row.getD m 0) = true) := hid (fun hf m hm => by
              by_cases c : m = a
              · subst c; exact hf
              · exact HA.out m (by omega))
            generalize row.getD a 0 = k at *
            by_cases g1 : k < 0
            · have HN := hid (HNA.out (by unfold rB; simp; omega))
              go_wp2_with fail
              go_ret
              exact ⟨by rw [HN.out]; rfl, BA.out⟩
            · have g1' : decide (k < 0) = false := by simp; omega
              by_cases g2 : (l1 : Int) ≤ k
              · have HN := hid (HNA.out (by unfold rB; simp; omega))
                go_wp2_with fail
                go_ret
                exact ⟨by rw [HN.out]; rfl, BA.out⟩
              · have g2' : decide ((l1 : Int) ≤ k) = false := by simp; omega
                by_cases g3 : o = 0
                · have HN := hid (HNX.out (by unfold rB; simp [g3]; omega))
                  have g3' : (o != 0) = false := by simp [g3]
                  clear g3
                  go_wp2_with fail
                  go_roundw
                  case rel => exact ⟨a + 1, by omega, by go_num, trivial, HN⟩
                  case measure => simp [intOf]; omega
                · have g3' : (o != 0) = true := bne_iff_ne.2 g3
                  by_cases g4 : k = (j : Int)
                  · have HN := hid (HNX.out (by unfold rB; simp [g4]; omega))
                    have g4' : (k != (j : Int)) = false := by simp [g4]
                    clear g4 g3
                    go_wp2_with fail
                    go_roundw
                    case rel => exact ⟨a + 1, by omega, by go_num, trivial, HN⟩
                    case measure => simp [intOf]; omega
                  · have HN := hid (HNA.out (by unfold rB; simp [g3, g4]))
                    have g4' : (k != (j : Int)) = true := bne_iff_ne.2 g4
                    clear g3 g4
                    go_wp2_with fail
                    go_ret
                    exact ⟨by rw [HN.out]; rfl, BA.out⟩
          · obtain rfl : a = 8 := by omega
            have HJ : Hid (∀ m, m < j + 1 → rowB l1 m (os.getD m 0) (ls.getD m []) = true) := hid (fun m hm => by
              by_cases c : m = j
              · subst c
                rw [HRW.out, HOW.out]
                unfold rowB
                rw [HBS.out, Bool.true_and, List.all_eq_true]
                intro x hx
                obtain ⟨i, hi, e⟩ := List.getElem_of_mem hx
                have := HA.out i (by omega)
                rw [List.getD, List.getElem?_eq_getElem hi] at this
                rw [← e]
                exact this
              · exact HI.out m (by omega))
            go_wp2_with fail
            go_roundw
            case rel => exact ⟨j + 1, by omega, by go_num, trivial, HJ⟩
            case measure => simp [intOf]; omega
    · obtain rfl : j = l1 := by omega
      have HY := hid (HF.out.2 (fun i hi => HI.out i hi))
      go_wp2_with fail
      go_ret
      exact ⟨by rw [HY.out]; rfl, BA.out⟩

theorem kformed_any (h1 : Ints w a1 l1 c1 os) (h2 : Lists w a2 l2 c2 ls) : Calls Try.prog 41 #[.agg #[.slice a1 l1 c1, .slice a2 l2 c2]] w fun e w' => e = .returned (.bool (formedB os ls)) ∧ Below w.heap.size w w' := by
  by_cases h : l1 = 0 ∨ 8 < l1 ∨ l2 ≠ l1
  · exact kformed_bad a1 a2 l1 c1 l2 c2 os ls w h1 h2 h
  · obtain rfl : l2 = l1 := by omega
    exact kformed_walk a1 a2 l2 c1 c2 os ls w h1 h2 (by omega) (by omega)
end

end Go.Proofs.Ytjagijohfkffiaa

/- A machine in memory, as it is read. -/
namespace Go.Proofs.Ytjagijohfkffiaa
open Go.RowKit
set_option linter.unusedVariables false

structure MaR (w : World) (b1 o1 b2 o2 n : Nat) (out : Nat → Nat) (nx : Nat → Nat → Nat) : Prop where
  l1 : b1 < w.heap.size
  l2 : b2 < w.heap.size
  o : ∀ i, i < n → w.cell? ⟨b1, o1 + i, none⟩ = some (.int .i64 (out i : Nat))
  x : ∀ i, i < n → ∃ r ro rc, w.cell? ⟨b2, o2 + i, none⟩ = some (.slice (some ⟨r, ro, none⟩) 8 rc) ∧ 8 ≤ rc ∧ rc ≤ 9223372036854775807 ∧ r < w.heap.size ∧ ∀ a, a < 8 → w.cell? ⟨r, ro + a, none⟩ = some (.int .i64 (nx i a : Nat))
theorem MaR.below {w w' : World} {b1 o1 b2 o2 n : Nat} {out : Nat → Nat} {nx : Nat → Nat → Nat} (h : MaR w b1 o1 b2 o2 n out nx) (hb : Below w.heap.size w w') : MaR w' b1 o1 b2 o2 n out nx := by
  refine ⟨Nat.lt_of_lt_of_le h.l1 hb.size, Nat.lt_of_lt_of_le h.l2 hb.size, fun i hi => (hb.cell (p := ⟨b1, o1 + i, none⟩) h.l1).trans (h.o i hi), fun i hi => ?_⟩
  obtain ⟨r, ro, rc, h1, h2, h3, h4, h5⟩ := h.x i hi
  exact ⟨r, ro, rc, (hb.cell (p := ⟨b2, o2 + i, none⟩) h.l2).trans h1, h2, h3, Nat.lt_of_lt_of_le h4 hb.size, fun a ha => (hb.cell (p := ⟨r, ro + a, none⟩) h4).trans (h5 a ha)⟩

theorem stK_next (o : Nat) (f : Nat → Nat) {a : Nat} (ha : a < 8) : (stK o f).next.getD a 0 = (f a : Int) := by
  have : a = 0 ∨ a = 1 ∨ a = 2 ∨ a = 3 ∨ a = 4 ∨ a = 5 ∨ a = 6 ∨ a = 7 := by omega
  rcases this with rfl | rfl | rfl | rfl | rfl | rfl | rfl | rfl <;> rfl

/-- The machine that Watch lays, as it is read. -/
theorem mar_of {w : World} {a1 a2 : Option Addr} {c1 c2 : Nat} {ss : List St} {out : Nat → Nat} {nx : Nat → Nat → Nat} (h1 : Ints w a1 ss.length c1 (outsTo ss ss.length)) (h2 : Lists w a2 ss.length c2 (nextTo ss ss.length)) (hs : ∀ c, c < ss.length → ss[c]? = some (stK (out c) (nx c))) (h0 : 0 < ss.length) :
    ∃ b1 o1 b2 o2, a1 = some ⟨b1, o1, none⟩ ∧ a2 = some ⟨b2, o2, none⟩ ∧ MaR w b1 o1 b2 o2 ss.length out nx := by
  obtain ⟨b1, o1, e1, hb1, hc1⟩ := h1.hcell h0
  obtain ⟨b2, o2, e2, hb2, hc2⟩ := h2.hcell h0
  have st : ∀ i, i < ss.length → stAt ss i = stK (out i) (nx i) := fun i hi => by simp [stAt, List.getD, hs i hi]
  refine ⟨b1, o1, b2, o2, e1, e2, hb1, hb2, fun i hi => ?_, fun i hi => ?_⟩
  · rw [hc1 i hi]
    rw [show (outsTo ss ss.length).getD i 0 = (stAt ss i).out by simp [outsTo, List.getD, List.getElem?_map, List.getElem?_range hi], st i hi]
    rfl
  · obtain ⟨r, rl, rc, k1, k2⟩ := hc2 i hi
    rw [show (nextTo ss ss.length).getD i [] = (stAt ss i).next by simp [nextTo, List.getD, List.getElem?_map, List.getElem?_range hi], st i hi] at k2
    have hl := k2.hlen
    obtain rfl : rl = 8 := by rw [← hl]; rfl
    obtain ⟨br, ro, rfl, hr, hcr⟩ := k2.hcell (by omega)
    exact ⟨br, ro, rc, k1, k2.hcap, k2.hmax, hr, fun a ha => by rw [hcr a ha, stK_next _ _ ha]⟩

end Go.Proofs.Ytjagijohfkffiaa

/- The walk of verdictkeep's numbered, of a machine whose states are numbered as they are met. -/
namespace Go.Proofs.Ytjagijohfkffiaa
open Go.RowKit
set_option linter.unusedVariables false

set_option maxHeartbeats 1000000 in
set_option maxRecDepth 100000 in
theorem knum_yes (b1 o1 b2 o2 n c1 c2 : Nat) (out : Nat → Nat) (nx : Nat → Nat → Nat) (w : World) (h : MaR w b1 o1 b2 o2 n out nx) (hn : Numbered n nx) (h8 : n ≤ 8) (m1 : n ≤ c1) (m2 : c1 ≤ 9223372036854775807) (m3 : n ≤ c2) (m4 : c2 ≤ 9223372036854775807) :
    Calls Try.prog 42 #[.agg #[.slice (some ⟨b1, o1, none⟩) n c1, .slice (some ⟨b2, o2, none⟩) n c2]] w fun e w' => e = .returned (.bool true) ∧ Below w.heap.size w w' := by
  have T0 := two_new w (.slice (some ⟨b1, o1, none⟩) n c1) (.slice (some ⟨b2, o2, none⟩) n c2) 46
  have BA := hid ((Below.refl w.heap.size w).alloc (Nat.le_refl _) (.cells #[.slice (some ⟨b1, o1, none⟩) n c1, .slice (some ⟨b2, o2, none⟩) n c2] 46))
  have H := hid (h.below BA.out)
  have HN := hid hn
  have x0 := T0.c0
  have x1 := T0.c1
  clear h T0 hn
  go_enter Try.func42, Try.ntmps42
  go_wp2_with fail
  generalize (w.alloc (.cells #[.slice (some ⟨b1, o1, none⟩) n c1, .slice (some ⟨b2, o2, none⟩) n c2] 46)) = W at *
  go_loopw [3, 4] (fun m x wq => ∃ i : Nat, i ≤ n ∧ x = .int .i64 i ∧ m = .int .i64 (met nx (8 * i) : Nat) ∧ wq = W) (fun _ x _ => n - (intOf x).toNat)
  case atStart => exact ⟨0, Nat.zero_le _, rfl, rfl, rfl⟩
  case round =>
    obtain ⟨i, hi, rfl, rfl, rfl⟩ := hrel
    by_cases hli : i < n
    · have k1 := (HN.out.1 (8 * i) (by omega)).1
      rw [show 8 * i / 8 = i by omega] at k1
      have k2 : decide ((met nx (8 * i) : Int) ≤ (i : Int)) = false := by simp; omega
      have k2n : decide (met nx (8 * i) ≤ i) = false := by simp; omega
      have k2m : ¬ met nx (8 * i) ≤ i := by omega
      obtain ⟨br, ob, rc, cr, rcc, rcm, _, hcr⟩ := H.out.x i hli
      have HCR := hid hcr
      clear hcr k1
      go_wp2_with fail
      go_loopw [3, 5] (fun m x wq => ∃ a : Nat, a ≤ 8 ∧ x = .int .i64 a ∧ m = .int .i64 (met nx (8 * i + a) : Nat) ∧ wr = wq) (fun _ x _ => 8 - (intOf x).toNat)
      case atStart => exact ⟨0, by omega, rfl, rfl, rfl⟩
      case round =>
        obtain ⟨a, ha, rfl, rfl, e⟩ := hrel
        subst e
        by_cases hla : a < 8
        · have ca := HCR.out a hla
          have k3 := (HN.out.1 (8 * i + a) (by omega)).2
          rw [show (8 * i + a) / 8 = i by omega, show (8 * i + a) % 8 = a by omega] at k3
          have HM : Hid (met nx (8 * i + (a + 1)) = max (met nx (8 * i + a)) (nx i a + 1)) := hid (by
            show max (met nx (8 * i + a)) (nx ((8 * i + a) / 8) ((8 * i + a) % 8) + 1) = _
            rw [show (8 * i + a) / 8 = i by omega, show (8 * i + a) % 8 = a by omega])
          have hml : met nx (8 * i + a) ≤ n := by
            have h9 := met_mono nx (show 8 * i + a ≤ 8 * n by omega)
            rw [HN.out.2] at h9
            exact h9
          generalize met nx (8 * i + a) = mm at *
          generalize nx i a = y at *
          have k4 : decide ((mm : Int) < (y : Int)) = false := by simp; omega
          have k4n : decide (mm < y) = false := by simp; omega
          by_cases hy : y = mm
          · have HM2 : Hid (met nx (8 * i + (a + 1)) = mm + 1) := hid (by rw [HM.out]; omega)
            subst hy
            go_wp2_with fail
            go_roundw
            case rel => exact ⟨a + 1, by omega, by go_num, by rw [HM2.out]; go_num, by first | rfl | trivial⟩
            case measure => simp [intOf]; omega
          · have HM2 : Hid (met nx (8 * i + (a + 1)) = mm) := hid (by rw [HM.out]; omega)
            have k5 : ((y : Int) == (mm : Int)) = false := beq_eq_false_iff_ne.2 (by omega)
            have k6 : ¬ ((y : Int) = (mm : Int)) := by omega
            go_wp2_with fail
            go_roundw
            case rel => exact ⟨a + 1, by omega, by go_num, by rw [HM2.out], by first | rfl | trivial⟩
            case measure => simp [intOf]; omega
        · obtain rfl : a = 8 := by omega
          go_wp2_with fail
          go_roundw
          case rel => exact ⟨i + 1, by omega, by go_num, by rw [show 8 * (i + 1) = 8 * i + 8 by omega], by first | rfl | trivial⟩
          case measure => simp [intOf]; omega
    · obtain rfl : i = n := by omega
      have hE := HN.out.2
      rw [hE]
      go_wp2
      go_ret
      exact ⟨rfl, BA.out⟩

end Go.Proofs.Ytjagijohfkffiaa
