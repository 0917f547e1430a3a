import Derived.Test.YtjagijohfkffiabCONM14
import Derived.Test.YtjagijohfkffiabCONM23
import Derived.Test.YtjagijohfkffiabCONM24
import Derived.Test.YtjagijohfkffiabCONM26
import Derived.Test.YtjagijohfkffiabCONM28
import Derived.Test.YtjagijohfkffiabCONM29
import Derived.Test.YtjagijohfkffiabCONM30
import Derived.Deep.QuietTactic
import Derived.BigQuiet
import Derived.Deep.RegionLaw
import Derived.Deep.DrawnRows

/- The walks of verdictlaw's sameInts, sameLists, sameMachine: two that are alike. -/
namespace Go.Proofs.Ytjagijohfkffiab
open Go.RowKit
set_option linter.unusedVariables false

theorem Ints.drewN {w : World} {a : Option Addr} {l c : Nat} {zs : List Int} (h : Ints w a l c zs) (n : Nat) : Ints (w.drewN n) a l c zs := h.below (below_drewN (Below.refl _ _) n)

/-- The lists that came out, as they are read. -/
theorem Lies.ints {w : World} {B : Nat} {v1 v2 : Value} {V : Nat → Value} {ss : List St} {j : Nat} (h : Lies w B v1 v2 V ss j) : ∃ a c, v1 = .slice a j c ∧ Ints w a j c (outsTo ss j) := by
  have hl : (outsTo ss j).length = j := by simp [outsTo]
  rcases h.out.2 with ⟨rfl, rfl⟩ | ⟨g, cap, cur, rfl, hb, hh, hc, hm, _⟩
  · exact ⟨none, 0, rfl, hl, Nat.le_refl _, by omega, fun _ => ⟨rfl, rfl⟩, fun h => by omega⟩
  · refine ⟨_, cap, rfl, hl, hc, by unfold maxLen at hm; omega, fun h => by simp at h, fun _ => ⟨g, 0, rfl, (Array.getElem?_eq_some_iff.1 hh).1, fun i hi => ?_⟩⟩
    rw [Nat.zero_add, h.out.cellAt i (by omega)]
    simp [intVs, List.getD, List.getElem?_eq_getElem (show i < (outsTo ss j).length by omega)]
def nextTo (ss : List St) (j : Nat) : List (List Int) := (List.range j).map fun i => (stAt ss i).next
theorem own_row_ints {w : World} {B n : Nat} {v : Value} {zs : List Int} (h : w.ownsRow B 3 1 v n (intVs zs)) : ∃ a c, v = .slice a n c ∧ Ints w a n c zs := by
  have hl : zs.length = n := by have := h.1; simp [intVs] at this; exact this
  rcases h.2 with ⟨rfl, rfl⟩ | ⟨g, cap, cur, rfl, hb, hh, hc, hm, _⟩
  · exact ⟨none, 0, rfl, hl, Nat.le_refl _, by omega, fun _ => ⟨rfl, rfl⟩, fun h => by omega⟩
  · refine ⟨_, cap, rfl, hl, hc, by unfold maxLen at hm; omega, fun h => by simp at h, fun _ => ⟨g, 0, rfl, (Array.getElem?_eq_some_iff.1 hh).1, fun i hi => ?_⟩⟩
    rw [Nat.zero_add, h.cellAt i (by omega)]
    simp [intVs, List.getD, List.getElem?_eq_getElem (show i < zs.length by omega)]
theorem Lies.lists {w : World} {B : Nat} {v1 v2 : Value} {V : Nat → Value} {ss : List St} {j : Nat} (h : Lies w B v1 v2 V ss j) : ∃ a c, v2 = .slice a j c ∧ Lists w a j c (nextTo ss j) := by
  have hl : (nextTo ss j).length = j := by simp [nextTo]
  rcases h.nxt.2 with ⟨rfl, rfl⟩ | ⟨g, cap, cur, rfl, hb, hh, hc, hm, _⟩
  · exact ⟨none, 0, rfl, hl, Nat.le_refl _, by omega, fun _ => ⟨rfl, rfl⟩, fun h => by omega⟩
  · refine ⟨_, cap, rfl, hl, hc, by unfold maxLen at hm; omega, fun h => by simp at h, fun _ => ⟨g, 0, rfl, (Array.getElem?_eq_some_iff.1 hh).1, fun i hi => ?_⟩⟩
    obtain ⟨a, c, hv, hi2⟩ := own_row_ints (h.row i hi)
    refine ⟨a, 8, c, ?_, ?_⟩
    · rw [Nat.zero_add, h.nxt.cellAt i (by omega)]
      simp [List.getElem?_map, List.getElem?_range hi, hv]
    · rw [show (nextTo ss j).getD i [] = (stAt ss i).next by simp [nextTo, List.getD, List.getElem?_map, List.getElem?_range hi]]
      exact hi2

end Go.Proofs.Ytjagijohfkffiab

/- The machine of Gp; the walk of watching. -/
namespace Go.Proofs.Ytjagijohfkffiab
open Go.RowKit
set_option linter.unusedVariables false

def gpN : List Nd := [⟨112, 0, 0⟩, ⟨71, 0, 0⟩]
def gpO (i : Nat) : Nat := if i = 0 then 0 else 2
def gpX (i a : Nat) : Nat := if i = 0 ∧ a % 2 = 1 then 0 else 1

theorem gp_run1 : ∀ w : List Nat, runM gpX 1 w = 1
  | [] => rfl
  | a :: w => by
    show runM gpX (gpX 1 a) w = 1
    rw [show gpX 1 a = 1 by simp [gpX]]
    exact gp_run1 w
theorem gp_run0 : ∀ w : List Nat, (runM gpX 0 w = 0 ∧ ∀ x ∈ w, x % 2 = 1) ∨ (runM gpX 0 w = 1 ∧ ∃ x ∈ w, x % 2 = 0)
  | [] => Or.inl ⟨rfl, fun x hx => by simp at hx⟩
  | a :: w => by
    by_cases h : a % 2 = 1
    · have e : runM gpX 0 (a :: w) = runM gpX 0 w := by show runM gpX (gpX 0 a) w = _; rw [show gpX 0 a = 0 by simp [gpX, h]]
      rw [e]
      rcases gp_run0 w with ⟨h1, h2⟩ | ⟨h1, x, h2, h3⟩
      · exact Or.inl ⟨h1, fun x hx => by
          rcases List.mem_cons.1 hx with rfl | hx
          · exact h
          · exact h2 x hx⟩
      · exact Or.inr ⟨h1, x, List.mem_cons_of_mem _ h2, h3⟩
    · have e : runM gpX 0 (a :: w) = 1 := by
        show runM gpX (gpX 0 a) w = _
        rw [show gpX 0 a = 1 by simp [gpX, h]]
        exact gp_run1 w
      exact Or.inr ⟨e, a, List.mem_cons_self .., by omega⟩
theorem bit0 (x : Nat) : x.testBit 0 = true ↔ x % 2 = 1 := by simp [Nat.testBit_zero]

theorem gp_tells (w : List Nat) (hw : LettersL w) : Verdict gpN w (gpO (runM gpX 0 w)) := by
  have lt : ∀ d, d < 8 → Letters (fun i => w.getD i d) := fun d hd t => by
    show w.getD t d < 8
    rw [List.getD]
    cases e : w[t]? with
    | none => simpa using hd
    | some y => exact hw y (List.mem_of_getElem? e)
  have bg : ∀ d, Begins w (fun i => w.getD i d) := fun d i hi => by simp [List.getD, List.getElem?_eq_getElem hi]
  rcases gp_run0 w with ⟨h1, h2⟩ | ⟨h1, x, h2, h3⟩
  · rw [h1]
    refine Or.inr (Or.inr ⟨rfl, ⟨fun i => w.getD i 1, lt 1 (by omega), bg 1, ?_⟩, ⟨fun i => w.getD i 0, lt 0 (by omega), bg 0, ?_⟩⟩)
    · refine ⟨fun _ => rfl, fun _ => (gp_sem _).2 fun t => ?_⟩
      rw [bit0, List.getD]
      cases e : w[t]? with
      | none => rfl
      | some y => exact h2 y (List.mem_of_getElem? e)
    · refine ⟨fun h => ?_, fun h => (by cases h)⟩
      have := (gp_sem _).1 h w.length
      rw [bit0, List.getD, List.getElem?_eq_none (Nat.le_refl _)] at this
      simp at this
  · rw [h1]
    refine Or.inl ⟨rfl, ?_⟩
    rintro ⟨y, _, hb, hs⟩
    obtain ⟨i, hi, e⟩ := List.getElem_of_mem h2
    have h4 := (gp_sem y).1 (hs.2 rfl) i
    rw [hb i hi, bit0] at h4
    simp [List.getD, List.getElem?_eq_getElem hi, e] at h4
    omega

theorem gp_mach : Mach gpN 2 gpO gpX := by
  refine ⟨⟨by decide, by decide⟩, fun i j hi hj hl => ?_, gp_tells⟩
  have h := hl [] (fun x hx => by simp at hx)
  simp only [runM] at h
  have : i = 0 ∨ i = 1 := by omega
  have : j = 0 ∨ j = 1 := by omega
  rcases ‹i = 0 ∨ i = 1› with rfl | rfl <;> rcases ‹j = 0 ∨ j = 1› with rfl | rfl <;> simp_all [gpO]

def gpSS : List St := [⟨0, [1, 0, 1, 0, 1, 0, 1, 0]⟩, ⟨2, [1, 1, 1, 1, 1, 1, 1, 1]⟩]
theorem gp_states {ss : List St} (h : MachS gpN ss) : ss = gpSS := by
  obtain ⟨out, nx, hM, hs⟩ := h
  obtain ⟨hl, e1, e2⟩ := mach_fun hM gp_mach
  have s : ∀ c, c < 2 → ss[c]? = some (stK (gpO c) (gpX c)) := fun c hc => by
    rw [hs c (by omega)]
    congr 1
    exact stK_inj.2 ⟨e1 c (by omega), fun a ha => e2 c a (by omega) ha⟩
  apply List.ext_getElem?
  intro i
  by_cases h2 : i < 2
  · rw [s i h2]
    have : i = 0 ∨ i = 1 := by omega
    rcases this with rfl | rfl <;> rfl
  · rw [List.getElem?_eq_none (by omega), List.getElem?_eq_none (by show 2 ≤ i; omega)]
theorem gp_small : ¬ Big gpN := fun h => by
  have := h _ _ _ gp_mach
  omega

def gpB : ByteArray := ⟨#[2, 0, 1, 0, 1, 0, 1, 0, 1, 0, 2, 1, 1, 1, 1, 1, 1, 1, 1]⟩
theorem gp_write : writeStr (outsTo gpSS 2) (nextTo gpSS 2) = gpB ∧ writeErr (outsTo gpSS 2) (nextTo gpSS 2) = 0 := by decide +kernel
theorem gp_read : readB gpB = true ∧ readErr gpB = 0 ∧ bt gpB 0 = 2 := by decide +kernel
theorem gp_runs : runVal gpB [1, 0] = 2 ∧ runErr gpB [1, 0] = 0 := by decide +kernel

theorem two_ints (w : World) (a b : Int) : Ints (w.alloc (.cells #[.int .i64 a, .int .i64 b] 3)) (some ⟨w.heap.size, 0, none⟩) 2 2 [a, b] := by
  refine ⟨rfl, Nat.le_refl _, by omega, fun h => by simp at h, fun _ => ⟨w.heap.size, 0, rfl, by simp, fun i hi => ?_⟩⟩
  have : i = 0 ∨ i = 1 := by omega
  rcases this with rfl | rfl <;> simp

set_option maxHeartbeats 1000000 in
set_option maxRecDepth 100000 in
theorem watching_any (w : World) : Calls Try.prog 8 #[] w fun e w' => e = .returned (.bool true) ∧ Below w.heap.size w w' := by
  have C1 := fun W => watch_any ⟨#[71, 112]⟩ W (by decide)
  unfold Watched at C1
  rw [gp_parse] at C1
  have C3 := fun W => read_any gpB W (by decide)
  unfold ReadDone at C3
  rw [gp_read.2.1, gp_read.2.2] at C3
  have C4 : ∀ (W : World) (n : Nat), W.heap.size = n → Calls Try.prog 32 #[.string gpB, .slice (some ⟨n, 0, none⟩) 2 2] (W.alloc (.cells #[.int .i64 1, .int .i64 0] 3)) fun e w' => e = .returned (.tuple #[.int .i64 2, .int .i64 0]) ∧ Below (W.alloc (.cells #[.int .i64 1, .int .i64 0] 3)).heap.size (W.alloc (.cells #[.int .i64 1, .int .i64 0] 3)) w' := fun W n hn => by
    subst hn
    have h9 := vrun_any gpB (some ⟨W.heap.size, 0, none⟩) 2 2 [1, 0] _ (by decide) (two_ints W 1 0)
    rw [gp_runs.1, gp_runs.2] at h9
    exact h9
  go_enter Try.func8, Try.ntmps8
  go_wp2_with fail
  refine (C1 _).mono ?_
  rintro e w1 ⟨v1, v2, er, rfl, _, q1, hb1⟩
  rcases q1 trivial with ⟨rfl, ss, V, hL, _, _, hM⟩ | ⟨_, _, _, hB⟩
  · obtain rfl := gp_states hM
    obtain ⟨a1, c1, rfl, I1⟩ := hL.ints
    obtain ⟨a2, c2, rfl, L2⟩ := hL.lists
    have ba := (Below.refl w1.heap.size w1).alloc (Nat.le_refl _) (.cells #[.slice a1 gpSS.length c1, .slice a2 gpSS.length c2] 35)
    have C2 := write_any a1 a2 gpSS.length c1 gpSS.length c2 (outsTo gpSS 2) (nextTo gpSS 2) _ (I1.below ba) (L2.below ba)
    rw [gp_write.1, gp_write.2] at C2
    have T1 := two_new w1 (.slice a1 gpSS.length c1) (.slice a2 gpSS.length c2) 35
    have HB1 := hid (hb1.trans (ba.mono hb1.size))
    have hs1 := hb1.size
    clear C1 q1 hM hL I1 L2 ba hb1
    rw [show gpSS.length = 2 from rfl] at *
    go_wp2_with fail
    refine C2.mono ?_
    rintro e w2 ⟨rfl, hb2⟩
    have T2 := T1.below hb2 (by simp)
    have HB2 := hid (HB1.out.trans (hb2.mono HB1.out.size))
    have hs2 := T2.lt
    clear C2 T1 hb2 HB1
    go_wp2_with fail
    refine (C3 _).mono ?_
    rintro e w3 ⟨hb3, k1, k2, rfl, hk⟩
    rcases hk with ⟨h0, _⟩ | ⟨_, V3, hL3⟩
    · rw [gp_read.1] at h0
      cases h0
    · obtain ⟨a3, c3, rfl⟩ := own_slice hL3.out
      obtain ⟨a4, c4, rfl⟩ := own_slice hL3.nxt
      have T3 := T2.below hb3 hs2
      have HB3 := hid (HB2.out.trans (hb3.mono HB2.out.size))
      have ba := (Below.refl w3.heap.size w3).alloc (Nat.le_refl _) (.cells #[.slice a3 2 c3, .slice a4 2 c4] 35)
      have T4 := T3.below ba T3.lt
      have U4 := two_new w3 (.slice a3 2 c3) (.slice a4 2 c4) 35
      have HB4 := hid (HB3.out.trans (ba.mono HB3.out.size))
      have hs3 := T3.lt
      clear C3 T2 T3 hb3 HB2 HB3 ba hL3
      go_wp2_with fail
      refine (C4 _ (w3.heap.size + 1) (by simp)).mono ?_
      rintro e w5 ⟨rfl, hb5⟩
      simp only [World.size_alloc] at hb5
      have bz := (((Below.refl w3.heap.size w3).alloc (Nat.le_refl _) (.cells #[.slice a3 2 c3, .slice a4 2 c4] 35)))
      have T5 := (T4.below ((Below.refl (w3.heap.size + 1) _).alloc (by simp) (.cells #[.int .i64 1, .int .i64 0] 3)) (by omega)).below hb5 (by omega)
      have U5 := (U4.below ((Below.refl (w3.heap.size + 1) _).alloc (by simp) (.cells #[.int .i64 1, .int .i64 0] 3)) (by omega)).below hb5 (by omega)
      have HB5 := hid ((HB4.out.alloc (by have := HB4.out.size; simp at this; simp; omega) (.cells #[.int .i64 1, .int .i64 0] 3)).trans (hb5.mono (by have := HB4.out.size; simp at this; omega)))
      have x0 := T5.c0
      have y0 := U5.c0
      clear C4 T4 U4 T5 U5 hb5 HB4 bz
      go_wp2
      go_ret
      exact ⟨rfl, HB5.out⟩
  · exact absurd hB gp_small

end Go.Proofs.Ytjagijohfkffiab

/- Plain mathematics: a formula that is composed of others. -/
namespace Go.Proofs.Ytjagijohfkffiab

/-- A node, its numbers moved on by b. -/
def shiftNd (b : Nat) (n : Nd) : Nd := if leafB n.op then ⟨n.op, 0, 0⟩ else if oneB n.op then ⟨n.op, n.l + b, 0⟩ else ⟨n.op, n.l + b, n.r + b⟩

theorem shift_shift (a b : Nat) (n : Nd) : shiftNd a (shiftNd b n) = shiftNd (b + a) n := by
  unfold shiftNd
  cases h1 : leafB n.op with
  | true => simp [h1]
  | false =>
    cases h2 : oneB n.op with
    | true => simp [h1, h2, Nat.add_assoc]
    | false => simp [h1, h2, Nat.add_assoc]

theorem map_shift (a b : Nat) (ms : List Nd) : (ms.map (shiftNd b)).map (shiftNd a) = ms.map (shiftNd (b + a)) := by
  rw [List.map_map]
  apply List.map_congr_left
  intro n _
  exact shift_shift a b n

/-- What is read in one text is read in another that has the same bytes there. -/
theorem ps_move : ∀ (k : Nat) (s : ByteArray) (a : Nat) (ns : List Nd) (a' : Nat) (ns' : List Nd), ps k s a ns = some (a', ns') →
    ∃ ms, ms ≠ [] ∧ ns' = ns ++ ms.map (shiftNd ns.length) ∧ ∀ (t : ByteArray) (d j : Nat) (ns2 : List Nd), (∀ i, a ≤ i → i < a' → bt t (i + d) = bt s i) → a' - a ≤ j → ps j t (a + d) ns2 = some (a' + d, ns2 ++ ms.map (shiftNd ns2.length))
  | 0, _, _, _, _, _, h => by simp [ps] at h
  | k + 1, s, a, ns, a', ns', h => by
    have g := ps_grows _ _ _ _ _ _ h
    by_cases b1 : leafB (bt s a) = true
    · rw [ps_leaf b1] at h
      simp only [Option.some.injEq, Prod.mk.injEq] at h
      obtain ⟨rfl, rfl⟩ := h
      refine ⟨[⟨bt s a, 0, 0⟩], by simp, by simp [shiftNd, b1], ?_⟩
      intro t d j ns2 hb hj
      obtain ⟨j', rfl⟩ : ∃ j', j = j' + 1 := ⟨j - 1, by omega⟩
      have e := hb a (Nat.le_refl _) (by omega)
      rw [ps_leaf (by rw [e]; exact b1), e]
      simp [shiftNd, b1, Nat.add_right_comm]
    · rw [Bool.not_eq_true] at b1
      by_cases b2 : oneB (bt s a) = true
      · rw [ps_one b2] at h
        unfold ps1 at h
        cases e : ps k s (a + 1) ns with
        | none => rw [e] at h; simp at h
        | some x =>
          obtain ⟨a1, n1⟩ := x
          rw [e] at h
          simp only [Option.some.injEq, Prod.mk.injEq] at h
          obtain ⟨rfl, rfl⟩ := h
          obtain ⟨m1, hne, h1, h2⟩ := ps_move k s _ _ _ _ e
          have hp : 0 < m1.length := List.length_pos_iff.2 hne
          refine ⟨m1 ++ [⟨bt s a, m1.length - 1, 0⟩], by simp, ?_, ?_⟩
          · rw [h1]
            simp [shiftNd, b1, b2]
            omega
          · intro t d j ns2 hb hj
            obtain ⟨j', rfl⟩ : ∃ j', j = j' + 1 := ⟨j - 1, by omega⟩
            have e0 := hb a (Nat.le_refl _) (by omega)
            have e1 := h2 t d j' ns2 (fun i hi1 hi2 => hb i (by omega) hi2) (by omega)
            rw [ps_one (by rw [e0]; exact b2), e0, ps1, show a + d + 1 = a + 1 + d by omega, e1]
            simp [shiftNd, b1, b2]
            omega
      · rw [Bool.not_eq_true] at b2
        by_cases b3 : bt s a = 40
        · rw [ps_two b3] at h
          unfold ps2 at h
          cases e : ps k s (a + 1) ns with
          | none => rw [e] at h; simp at h
          | some x =>
            obtain ⟨a1, n1⟩ := x
            rw [e] at h
            simp only at h
            by_cases b4 : twoB (bt s a1) = true
            · rw [if_pos b4] at h
              cases e2 : ps k s (a1 + 1) n1 with
              | none => rw [e2] at h; simp at h
              | some x =>
                obtain ⟨a2, n2⟩ := x
                rw [e2] at h
                simp only at h
                by_cases b5 : bt s a2 = 41
                · rw [if_pos b5] at h
                  simp only [Option.some.injEq, Prod.mk.injEq] at h
                  obtain ⟨rfl, rfl⟩ := h
                  have g1 := ps_grows _ _ _ _ _ _ e
                  have g2 := ps_grows _ _ _ _ _ _ e2
                  obtain ⟨m1, hne1, h1, h2⟩ := ps_move k s _ _ _ _ e
                  obtain ⟨m2, hne2, h3, h4⟩ := ps_move k s _ _ _ _ e2
                  have hp1 : 0 < m1.length := List.length_pos_iff.2 hne1
                  have hp2 : 0 < m2.length := List.length_pos_iff.2 hne2
                  have c1 := two_not_leaf b4
                  have c2 : oneB (bt s a1) = false := by
                    cases c : oneB (bt s a1) with
                    | false => rfl
                    | true => rw [one_not_two c] at b4; simp at b4
                  refine ⟨m1 ++ m2.map (shiftNd m1.length) ++ [⟨bt s a1, m1.length - 1, m1.length + m2.length - 1⟩], by simp, ?_, ?_⟩
                  · rw [h3, h1]
                    simp only [List.map_append, map_shift, List.length_append, List.length_map, List.append_assoc, List.map_cons, List.map_nil]
                    rw [show ns.length + m1.length = m1.length + ns.length by omega]
                    simp only [shiftNd, c1, c2, Bool.false_eq_true, if_false]
                    rw [show m1.length + ns.length - 1 = m1.length - 1 + ns.length by omega, show ns.length + (m1.length + m2.length) - 1 = m1.length + m2.length - 1 + ns.length by omega]
                  · intro t d j ns2 hb hj
                    obtain ⟨j', rfl⟩ : ∃ j', j = j' + 1 := ⟨j - 1, by omega⟩
                    have e0 := hb a (Nat.le_refl _) (by omega)
                    have e1 := h2 t d j' ns2 (fun i hi1 hi2 => hb i (by omega) (by omega)) (by omega)
                    have e3 := hb a1 (by omega) (by omega)
                    have e4 := h4 t d j' (ns2 ++ m1.map (shiftNd ns2.length)) (fun i hi1 hi2 => hb i (by omega) (by omega)) (by omega)
                    have e5 := hb a2 (by omega) (by omega)
                    rw [ps_two (by rw [e0]; exact b3), ps2, show a + d + 1 = a + 1 + d by omega, e1]
                    simp only
                    rw [e3, if_pos b4, show a1 + d + 1 = a1 + 1 + d by omega, e4]
                    simp only
                    rw [e5, if_pos b5]
                    simp only [List.map_append, map_shift, List.length_append, List.length_map, List.append_assoc, List.map_cons, List.map_nil]
                    rw [show ns2.length + m1.length = m1.length + ns2.length by omega]
                    simp only [shiftNd, c1, c2, Bool.false_eq_true, if_false]
                    rw [show m1.length + ns2.length - 1 = m1.length - 1 + ns2.length by omega, show ns2.length + (m1.length + m2.length) - 1 = m1.length + m2.length - 1 + ns2.length by omega, show a2 + 1 + d = a2 + d + 1 by omega]
                · rw [if_neg b5] at h; simp at h
            · rw [if_neg b4] at h; simp at h
        · rw [ps_no b1 b2 b3] at h; simp at h

end Go.Proofs.Ytjagijohfkffiab

/- Plain mathematics: what a composed formula is, and what it means. -/
namespace Go.Proofs.Ytjagijohfkffiab

theorem parse_ok {s : ByteArray} (h : (parseOf s).1 = 0) : s.size ≤ 24 ∧ ps 25 s 0 [] = some (s.size, (parseOf s).2) := by
  unfold parseOf at h ⊢
  split at h
  · simp at h
  · rename_i h1
    rw [if_neg h1]
    refine ⟨by omega, ?_⟩
    cases e : ps 25 s 0 [] with
    | none => rw [e] at h; simp at h
    | some x =>
      obtain ⟨a, ns⟩ := x
      rw [e] at h
      simp only at h ⊢
      split at h
      · rename_i h2
        rw [if_pos h2]
        split at h
        · simp at h
        · rename_i h3
          rw [if_neg h3, h2]
      · simp at h

theorem parse_of {s : ByteArray} {ns : List Nd} (hs : ¬ 24 < s.size) (h : ps 25 s 0 [] = some (s.size, ns)) : parseOf s = if 8 < ns.length then (3, []) else (0, ns) := by
  unfold parseOf
  rw [if_neg hs, h]
  simp

theorem parse_one {f t : ByteArray} {op : Nat} (hop : oneB op = true) (hf : (parseOf f).1 = 0) (hs : t.size = f.size + 1) (h0 : bt t 0 = op) (hi : ∀ i, i < f.size → bt t (i + 1) = bt f i) (hl : ¬ 24 < t.size) :
    parseOf t = if 8 < (parseOf f).2.length + 1 then (3, []) else (0, (parseOf f).2 ++ [⟨op, (parseOf f).2.length - 1, 0⟩]) := by
  obtain ⟨_, hp⟩ := parse_ok hf
  obtain ⟨ms, hne, e1, e2⟩ := ps_move _ _ _ _ _ _ hp
  have e3 := e2 t 1 24 [] (fun i _ h => hi i h) (by omega)
  simp only [List.nil_append, List.length_nil] at e1 e3
  rw [← e1] at e3
  have key : ps 25 t 0 [] = some (t.size, (parseOf f).2 ++ [⟨op, (parseOf f).2.length - 1, 0⟩]) := by
    rw [ps_one (k := 24) (by rw [h0]; exact hop), h0, ps1, show 0 + 1 = 0 + 1 from rfl, e3, hs]
  rw [parse_of hl key]
  simp

theorem it_one (s i : Nat) : it (fun i => i + 1) s i = i + s := by
  induction s generalizing i with
  | zero => rfl
  | succ s ih => simp only [it]; rw [ih]; omega

/-- What a composed formula means at the beginning. -/
def Comp (op : Nat) (F G : Nat → Prop) : Prop :=
  if op = 33 then ¬ F 0 else if op = 88 then F 1 else if op = 70 then ∃ s, F s else if op = 71 then ∀ s, F s
  else if op = 38 then F 0 ∧ G 0 else if op = 124 then F 0 ∨ G 0 else if op = 85 then ∃ s, G s ∧ ∀ m, m < s → F m else ∀ s, G s ∨ ∃ m, m < s ∧ F m

theorem sem_one {lt : Nat → Nat} {nf : List Nd} {op : Nat} (hop : oneB op = true) (G : Nat → Prop) : sem (fun i => i + 1) lt (nf ++ [⟨op, nf.length - 1, 0⟩]) nf.length 0 ↔ Comp op (sem (fun i => i + 1) lt nf (nf.length - 1)) G := by
  rw [sem_new]
  unfold den Comp sem
  rcases one_is hop with e | e | e | e <;> simp [e, it_one]

end Go.Proofs.Ytjagijohfkffiab

/- Settled: the walk. -/
namespace Go.Proofs.Ytjagijohfkffiab
open Go.RowKit
set_option linter.unusedVariables false

theorem verdict_ex (ns : List Nd) (u : List Nat) : ∃ x, Verdict ns u x := by
  by_cases h1 : May ns u true
  · by_cases h2 : May ns u false
    · exact ⟨0, Or.inr (Or.inr ⟨rfl, h1, h2⟩)⟩
    · exact ⟨1, Or.inr (Or.inl ⟨rfl, h1, h2⟩)⟩
  · exact ⟨2, Or.inl ⟨rfl, h1⟩⟩
theorem verdict_lt {ns : List Nd} {u : List Nat} {x : Nat} (h : Verdict ns u x) : x = 0 ∨ x = 1 ∨ x = 2 := by rcases h with ⟨h, _⟩ | ⟨h, _⟩ | ⟨h, _⟩ <;> omega
end Go.Proofs.Ytjagijohfkffiab

/- The walks of the reference's Formed and Write. -/
namespace Go.Proofs.Ytjagijohfkffiab
open Go.RowKit
set_option linter.unusedVariables false

section
variable (a1 a2 : Option Addr) (l1 c1 l2 c2 : Nat) (os : List Int) (ls : List (List Int)) (w : World)

end

end Go.Proofs.Ytjagijohfkffiab

/- The walk of the reference's Write; Writes' walk. -/
namespace Go.Proofs.Ytjagijohfkffiab
open Go.RowKit
set_option linter.unusedVariables false

section
variable (a1 a2 : Option Addr) (l1 c1 l2 c2 : Nat) (os : List Int) (ls : List (List Int)) (w : World)

end

end Go.Proofs.Ytjagijohfkffiab

/- The walk of the reference's Read. -/
namespace Go.Proofs.Ytjagijohfkffiab
open Go.RowKit
set_option linter.unusedVariables false
attribute [local go_sem ↓] Go.wp_at_zero Go.wp_at_succ

/-- The bytes from place a on. -/
def tail (s : ByteArray) (a : Nat) : ByteArray := s.extract a s.size
section
variable (s : ByteArray) (w : World)

end

end Go.Proofs.Ytjagijohfkffiab

/- Plain mathematics: the machine of a formula is well formed. -/
namespace Go.Proofs.Ytjagijohfkffiab
set_option linter.unusedVariables false

theorem letters_app {u v : List Nat} (h : LettersL u) (k : LettersL v) : LettersL (u ++ v) := fun x hx => (List.mem_append.1 hx).elim (h x) (k x)
theorem letters_one {a : Nat} (h : a < 8) : LettersL [a] := fun x hx => by simp at hx; omega

/-- A word leads to each state. -/
theorem num_word {n : Nat} {nx : Nat → Nat → Nat} (hn : Numbered n nx) : ∀ i, i < n → ∃ w, LettersL w ∧ runM nx 0 w = i := by
  have key : ∀ p, p ≤ 8 * n → ∀ i, i < met nx p → ∃ w, LettersL w ∧ runM nx 0 w = i := by
    intro p
    induction p with
    | zero =>
      intro _ i hi
      simp only [met] at hi
      exact ⟨[], fun x hx => by simp at hx, by show 0 = i; omega⟩
    | succ p ih =>
      intro hp i hi
      by_cases c : i < met nx p
      · exact ih (by omega) i c
      · simp only [met] at hi
        obtain ⟨h1, h2⟩ := hn.1 p (by omega)
        obtain ⟨w, h3, h4⟩ := ih (by omega) _ h1
        refine ⟨w ++ [p % 8], letters_app h3 (letters_one (Nat.mod_lt _ (by omega))), ?_⟩
        rw [runM_app, h4]
        show nx (p / 8) (p % 8) = i
        omega
  intro i hi
  exact key (8 * n) (Nat.le_refl _) i (by rw [hn.2]; exact hi)

section
variable {ns : List Nd} {n : Nat} {out : Nat → Nat} {nx : Nat → Nat → Nat}

theorem mach_tells (h : Mach ns n out nx) {i : Nat} (hi : i < n) : out i = 0 ∨ out i = 1 ∨ out i = 2 := by
  obtain ⟨w, hw, rfl⟩ := num_word h.num i hi
  exact verdict_lt (h.tells w hw)

end

end Go.Proofs.Ytjagijohfkffiab

/- Plain mathematics: of !f all is the other way round. -/
namespace Go.Proofs.Ytjagijohfkffiab
set_option linter.unusedVariables false

/-- The nodes of !f. -/
def negN (ns : List Nd) : List Nd := ns ++ [⟨33, ns.length - 1, 0⟩]
theorem negN_len (ns : List Nd) : (negN ns).length = ns.length + 1 := by simp [negN]
def negT (s : ByteArray) : ByteArray := (⟨#[33]⟩ : ByteArray) ++ s
theorem negT_size (s : ByteArray) : (negT s).size = s.size + 1 := by
  unfold negT
  rw [ByteArray.size_append, Nat.add_comm]
  rfl
theorem btl (s : ByteArray) (i : Nat) : bt s i = (s.data.toList.getD i 0).toNat := by
  by_cases h : i < s.size
  · rw [bt_in h]
    have h2 : i < s.data.toList.length := by simpa using h
    rw [List.getD, List.getElem?_eq_getElem h2]
    simp
    rfl
  · rw [bt_out h]
    have h2 : s.data.toList.length ≤ i := by simpa using h
    rw [List.getD, List.getElem?_eq_none h2]
    rfl
theorem negT_list (s : ByteArray) : (negT s).data.toList = 33 :: s.data.toList := by simp [negT]
theorem parse_neg {s : ByteArray} (h0 : (parseOf s).1 = 0) (hn : (parseOf s).2.length < 8) (hs : s.size < 24) : parseOf (negT s) = (0, negN (parseOf s).2) := by
  have b0 : bt (negT s) 0 = 33 := by
    rw [btl, negT_list]
    rfl
  have bi : ∀ i, i < s.size → bt (negT s) (i + 1) = bt s i := fun i hi => by
    rw [btl, btl, negT_list]
    simp
  rw [parse_one (op := 33) rfl h0 (negT_size s) b0 bi (by rw [negT_size]; omega), if_neg (by omega)]
  rfl

section
variable {ns : List Nd}
theorem neg_sem (x : Nat → Nat) : sem (fun i => i + 1) x (negN ns) ((negN ns).length - 1) 0 ↔ ¬ sem (fun i => i + 1) x ns (ns.length - 1) 0 := by
  rw [negN_len, Nat.add_sub_cancel]
  exact sem_one rfl (fun _ => True)
theorem neg_may {u : List Nat} {b : Bool} : May (negN ns) u b ↔ May ns u (!b) := by
  unfold May
  constructor
  · rintro ⟨x, h1, h2, h3⟩
    rw [neg_sem] at h3
    refine ⟨x, h1, h2, ?_⟩
    cases b
    · simp at h3 ⊢; exact h3
    · simp at h3 ⊢; exact h3
  · rintro ⟨x, h1, h2, h3⟩
    refine ⟨x, h1, h2, ?_⟩
    rw [neg_sem]
    cases b
    · simp at h3 ⊢; exact h3
    · simp at h3 ⊢; exact h3
def otherV (v : Nat) : Nat := if v = 0 then 0 else 3 - v
theorem may_some (u : List Nat) (hu : ∀ x ∈ u, x < 8) : May ns u true ∨ May ns u false := by
  have hL : Letters (fun i => u.getD i 0) := fun t => by
    show u.getD t 0 < 8
    rw [List.getD]
    cases e : u[t]? with
    | none => simp
    | some y => exact hu y (List.mem_of_getElem? e)
  by_cases h : sem (fun i => i + 1) (fun i => u.getD i 0) ns (ns.length - 1) 0
  · exact Or.inl ⟨_, hL, fun i hi => rfl, fun _ => rfl, fun _ => h⟩
  · exact Or.inr ⟨_, hL, fun i hi => rfl, fun k => absurd k h, fun k => by cases k⟩
theorem neg_verdict {u : List Nat} (hu : ∀ x ∈ u, x < 8) {v : Nat} (h : Verdict ns u v) : Verdict (negN ns) u (otherV v) := by
  have m := may_some (ns := ns) u hu
  unfold Verdict
  rw [neg_may, neg_may]
  simp only [Bool.not_true, Bool.not_false]
  rcases h with ⟨rfl, h1⟩ | ⟨rfl, h1, h2⟩ | ⟨rfl, h1, h2⟩
  · refine Or.inr (Or.inl ⟨rfl, ?_, h1⟩)
    rcases m with m | m
    · exact absurd m h1
    · exact m
  · exact Or.inl ⟨rfl, h2⟩
  · exact Or.inr (Or.inr ⟨rfl, h2, h1⟩)
theorem otherV_inj {a b : Nat} (ha : a = 0 ∨ a = 1 ∨ a = 2) (hb : b = 0 ∨ b = 1 ∨ b = 2) (h : otherV a = otherV b) : a = b := by
  unfold otherV at h
  split at h <;> split at h <;> omega
theorem otherV_twice {a : Nat} (ha : a = 0 ∨ a = 1 ∨ a = 2) : otherV (otherV a) = a := by rcases ha with rfl | rfl | rfl <;> rfl
theorem neg_verdict_back {u : List Nat} (hu : ∀ x ∈ u, x < 8) {v : Nat} (h : Verdict (negN ns) u v) : Verdict ns u (otherV v) := by
  obtain ⟨x, hx⟩ := verdict_ex ns u
  have := verdict_fun (neg_verdict hu hx) h
  rw [← this, otherV_twice (verdict_lt hx)]
  exact hx

theorem neg_mach {n : Nat} {out : Nat → Nat} {nx : Nat → Nat → Nat} (h : Mach ns n out nx) : Mach (negN ns) n (fun i => otherV (out i)) nx := by
  refine ⟨h.num, fun i j hi hj hl => h.apart i j hi hj fun w hw => ?_, fun w hw => neg_verdict hw (h.tells w hw)⟩
  have hr : ∀ i, i < n → runM nx i w < n := fun i hi => run_lt (fun i a hi ha => numbered_lt h.num hi ha) w i hi hw
  exact otherV_inj (mach_tells h (hr i hi)) (mach_tells h (hr j hj)) (hl w hw)
theorem neg_mach_back {n : Nat} {out : Nat → Nat} {nx : Nat → Nat → Nat} (h : Mach (negN ns) n out nx) : Mach ns n (fun i => otherV (out i)) nx := by
  refine ⟨h.num, fun i j hi hj hl => h.apart i j hi hj fun w hw => ?_, fun w hw => neg_verdict_back hw (h.tells w hw)⟩
  have hr : ∀ i, i < n → runM nx i w < n := fun i hi => run_lt (fun i a hi ha => numbered_lt h.num hi ha) w i hi hw
  exact otherV_inj (mach_tells h (hr i hi)) (mach_tells h (hr j hj)) (hl w hw)
theorem neg_big : Big (negN ns) ↔ Big ns := ⟨fun h n out nx k => h n _ nx (neg_mach k), fun h n out nx k => h n _ nx (neg_mach_back k)⟩

theorem neg_evade {vd : Nat} (hv : vd = 1 ∨ vd = 2) {hd : Bool} : Evade (negN ns) vd hd ↔ Evade ns (3 - vd) (!hd) := by
  have ho : otherV vd = 3 - vd := by rcases hv with rfl | rfl <;> rfl
  have ho2 : otherV (3 - vd) = vd := by rcases hv with rfl | rfl <;> rfl
  unfold Evade
  constructor
  · rintro ⟨x, h1, h2, h3⟩
    rw [neg_sem] at h2
    refine ⟨x, h1, ?_, fun k hk => h3 k ?_⟩
    · cases hd
      · simp at h2 ⊢; exact h2
      · simp at h2 ⊢; exact h2
    · have := neg_verdict (pre_lt h1 k) hk
      rw [ho2] at this
      exact this
  · rintro ⟨x, h1, h2, h3⟩
    refine ⟨x, h1, ?_, fun k hk => h3 k ?_⟩
    · rw [neg_sem]
      cases hd
      · simp at h2 ⊢; exact h2
      · simp at h2 ⊢; exact h2
    · have := neg_verdict_back (pre_lt h1 k) hk
      rw [ho] at this
      exact this
theorem neg_kind {a b c a' b' c' : Bool} (h : Kind ns a b c) (k : Kind (negN ns) a' b' c') : a' = b ∧ b' = a := by
  constructor
  · rw [Bool.eq_iff_iff, k.safe, h.cosafe, neg_evade (Or.inr rfl)]; rfl
  · rw [Bool.eq_iff_iff, k.cosafe, h.safe, neg_evade (Or.inl rfl)]; rfl

/-- The states of the machine of !f. -/
def negS (s : St) : St := ⟨if s.out = 0 then 0 else 3 - s.out, s.next⟩
theorem neg_states {ss ss' : List St} (h : MachS ns ss) (k : MachS (negN ns) ss') : ss' = ss.map negS := by
  obtain ⟨out, nx, hM, hs⟩ := h
  obtain ⟨out', nx', kM, ks⟩ := k
  obtain ⟨e0, e1, e2⟩ := mach_fun kM (neg_mach hM)
  apply List.ext_getElem?
  intro i
  by_cases hi : i < ss.length
  · rw [List.getElem?_map, hs i hi, ks i (by omega)]
    simp only [Option.map_some]
    congr 1
    have ht := mach_tells hM hi
    have e3 := e1 i (by omega)
    have e4 : ∀ a, a < 8 → nx' i a = nx i a := fun a ha => e2 i a (by omega) ha
    unfold stK negS
    rw [e3, e4 0 (by omega), e4 1 (by omega), e4 2 (by omega), e4 3 (by omega), e4 4 (by omega), e4 5 (by omega), e4 6 (by omega), e4 7 (by omega)]
    rcases ht with e | e | e <;> rw [e] <;> rfl
  · rw [List.getElem?_eq_none (by omega), List.getElem?_eq_none (by simp; omega)]
end

/-! ### Kinds -/
section
variable {ns : List Nd} {n : Nat} {out : Nat → Nat} {nx : Nat → Nat → Nat}

end

end Go.Proofs.Ytjagijohfkffiab
