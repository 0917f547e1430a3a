import Derived.Test.YtjagijohfkffiaaWM41
import Derived.Deep.QuietTactic
import Derived.BigQuiet

/- The walks of verdictlaw's sameInts, sameLists, sameMachine: two that are alike. -/
namespace Go.Proofs.Ytjagijohfkffiaa
open Go.RowKit
set_option linter.unusedVariables false

set_option maxHeartbeats 1000000 in
theorem sameInts_yes (a1 a2 : Option Addr) (l c1 c2 : Nat) (zs : List Int) (w : World) (h1 : Ints w a1 l c1 zs) (h2 : Ints w a2 l c2 zs) :
    Calls Try.prog 67 #[.slice a1 l c1, .slice a2 l c2] w fun e w' => e = .returned (.bool true) ∧ ∃ n, w' = w.drewN n := by
  have m1 := h1.hmax
  have m3 := h1.hcap
  have m2 := h2.hmax
  have m4 := h2.hcap
  go_enter Try.func67, Try.ntmps67
  go_wp2_with fail
  go_loopw [5] (fun i wr => ∃ j : Nat, j ≤ l ∧ i = .int .i64 j ∧ ∃ n, wr = w.drewN n) (fun i _ => l - (intOf i).toNat)
  case atStart => exact ⟨0, Nat.zero_le _, rfl, 0, rfl⟩
  case round =>
    obtain ⟨j, hj, rfl, n, rfl⟩ := hrel
    by_cases hlt : j < l
    · obtain ⟨b1, o1, rfl, hlt1, hc1⟩ := h1.hcell (by omega)
      obtain ⟨b2, o2, rfl, hlt2, hc2⟩ := h2.hcell (by omega)
      have c := hc1 j hlt
      have d := hc2 j hlt
      generalize zs.getD j 0 = x at *
      clear hc1 hc2
      go_wp2_with fail
      go_quiet (fail)
      go_wp2_with fail
      go_roundw
      case rel => exact ⟨j + 1, by omega, by go_num, _, rfl⟩
      case measure => simp [intOf]; omega
    · go_wp2_with fail
      go_ret
      exact ⟨rfl, n, rfl⟩

theorem Ints.drewN {w : World} {a : Option Addr} {l c : Nat} {zs : List Int} (h : Ints w a l c zs) (n : Nat) : Ints (w.drewN n) a l c zs := h.below (below_drewN (Below.refl _ _) n)

set_option maxHeartbeats 1000000 in
theorem sameLists_yes (a1 a2 : Option Addr) (l c1 c2 : Nat) (zs : List (List Int)) (w : World) (h1 : Lists w a1 l c1 zs) (h2 : Lists w a2 l c2 zs) :
    Calls Try.prog 68 #[.slice a1 l c1, .slice a2 l c2] w fun e w' => e = .returned (.bool true) ∧ ∃ n, w' = w.drewN n := by
  have m1 := h1.hmax
  have m3 := h1.hcap
  have m2 := h2.hmax
  have m4 := h2.hcap
  go_enter Try.func68, Try.ntmps68
  go_wp2_with fail
  go_loopw [5] (fun i wr => ∃ j : Nat, j ≤ l ∧ i = .int .i64 j ∧ ∃ n, wr = w.drewN n) (fun i _ => l - (intOf i).toNat)
  case atStart => exact ⟨0, Nat.zero_le _, rfl, 0, rfl⟩
  case round =>
    obtain ⟨j, hj, rfl, n, hw⟩ := hrel
    have HW := hid hw
    by_cases hlt : j < l
    · obtain ⟨b1, o1, rfl, hlt1, hc1⟩ := h1.hcell (by omega)
      obtain ⟨b2, o2, rfl, hlt2, hc2⟩ := h2.hcell (by omega)
      obtain ⟨r1, k1, e1, c, i1⟩ := hc1 j hlt
      obtain ⟨r2, k2, e2, d, i2⟩ := hc2 j hlt
      obtain rfl : k2 = k1 := by rw [← i1.hlen, ← i2.hlen]
      have c' : wr.cell? ⟨b1, o1 + j, none⟩ = some (.slice r1 k2 e1) := by rw [hw]; exact c
      have d' : wr.cell? ⟨b2, o2 + j, none⟩ = some (.slice r2 k2 e2) := by rw [hw]; exact d
      have C := fun m => sameInts_yes r1 r2 k2 e1 e2 _ (wr.drewN m) (by rw [hw]; exact (i1.drewN n).drewN m) (by rw [hw]; exact (i2.drewN n).drewN m)
      clear c d
      clear hc1 hc2 i1 i2 hw
      go_wp2_with fail
      go_quiet ((go_at_call 67; exact Calls.quiet_of (C _)))
      go_wp2_with fail
      go_roundw
      case rel => exact ⟨j + 1, by omega, by go_num, _, by rw [HW.out, World.drewN_drewN]⟩
      case measure => simp [intOf]; omega
    · go_wp2_with fail
      go_ret
      exact ⟨rfl, n, rfl⟩

set_option maxHeartbeats 1000000 in
theorem sameMachine_yes (a1 a2 b1 b2 : Option Addr) (l1 c1 l2 c2 d1 d2 : Nat) (os : List Int) (ls : List (List Int)) (w : World) (h1 : Ints w a1 l1 c1 os) (h2 : Lists w a2 l2 c2 ls) (k1 : Ints w b1 l1 d1 os) (k2 : Lists w b2 l2 d2 ls) :
    Calls Try.prog 32 #[.agg #[.slice a1 l1 c1, .slice a2 l2 c2], .agg #[.slice b1 l1 d1, .slice b2 l2 d2]] w fun e w' => e = .returned (.bool true) ∧ Below w.heap.size w w' := by
  have C1 := fun W (b : Below w.heap.size w W) => sameInts_yes a1 b1 l1 c1 d1 os W (h1.below b) (k1.below b)
  have C2 := fun W (b : Below w.heap.size w W) => sameLists_yes a2 b2 l2 c2 d2 ls W (h2.below b) (k2.below b)
  have B := ((Below.refl w.heap.size w).alloc (Nat.le_refl _) (.cells #[.slice a1 l1 c1, .slice a2 l2 c2] 46)).alloc (by simp) (.cells #[.slice b1 l1 d1, .slice b2 l2 d2] 46)
  have HB := hid B
  clear B
  go_enter Try.func32, Try.ntmps32
  go_wp2_with fail
  refine (C1 _ HB.out).mono ?_
  rintro e w1 ⟨rfl, n, rfl⟩
  go_wp2_with fail
  refine (C2 _ (below_drewN HB.out n)).mono ?_
  rintro e w2 ⟨rfl, m, rfl⟩
  clear C1 C2
  go_wp2_with fail
  go_ret
  exact ⟨rfl, below_drewN HB.out _⟩

/-- The lists that came out, as they are read. -/
theorem Lies.ints {w : World} {B : Nat} {v1 v2 : Value} {V : Nat → Value} {ss : List St} {j : Nat} (h : Lies w B v1 v2 V ss j) : ∃ a c, v1 = .slice a j c ∧ Ints w a j c (outsTo ss j) := by
  have hl : (outsTo ss j).length = j := by simp [outsTo]
  rcases h.out.2 with ⟨rfl, rfl⟩ | ⟨g, cap, cur, rfl, hb, hh, hc, hm, _⟩
  · exact ⟨none, 0, rfl, hl, Nat.le_refl _, by omega, fun _ => ⟨rfl, rfl⟩, fun h => by omega⟩
  · refine ⟨_, cap, rfl, hl, hc, by unfold maxLen at hm; omega, fun h => by simp at h, fun _ => ⟨g, 0, rfl, (Array.getElem?_eq_some_iff.1 hh).1, fun i hi => ?_⟩⟩
    rw [Nat.zero_add, h.out.cellAt i (by omega)]
    simp [intVs, List.getD, List.getElem?_eq_getElem (show i < (outsTo ss j).length by omega)]
def nextTo (ss : List St) (j : Nat) : List (List Int) := (List.range j).map fun i => (stAt ss i).next
theorem own_row_ints {w : World} {B n : Nat} {v : Value} {zs : List Int} (h : w.ownsRow B 3 1 v n (intVs zs)) : ∃ a c, v = .slice a n c ∧ Ints w a n c zs := by
  have hl : zs.length = n := by have := h.1; simp [intVs] at this; exact this
  rcases h.2 with ⟨rfl, rfl⟩ | ⟨g, cap, cur, rfl, hb, hh, hc, hm, _⟩
  · exact ⟨none, 0, rfl, hl, Nat.le_refl _, by omega, fun _ => ⟨rfl, rfl⟩, fun h => by omega⟩
  · refine ⟨_, cap, rfl, hl, hc, by unfold maxLen at hm; omega, fun h => by simp at h, fun _ => ⟨g, 0, rfl, (Array.getElem?_eq_some_iff.1 hh).1, fun i hi => ?_⟩⟩
    rw [Nat.zero_add, h.cellAt i (by omega)]
    simp [intVs, List.getD, List.getElem?_eq_getElem (show i < zs.length by omega)]
theorem Lies.lists {w : World} {B : Nat} {v1 v2 : Value} {V : Nat → Value} {ss : List St} {j : Nat} (h : Lies w B v1 v2 V ss j) : ∃ a c, v2 = .slice a j c ∧ Lists w a j c (nextTo ss j) := by
  have hl : (nextTo ss j).length = j := by simp [nextTo]
  rcases h.nxt.2 with ⟨rfl, rfl⟩ | ⟨g, cap, cur, rfl, hb, hh, hc, hm, _⟩
  · exact ⟨none, 0, rfl, hl, Nat.le_refl _, by omega, fun _ => ⟨rfl, rfl⟩, fun h => by omega⟩
  · refine ⟨_, cap, rfl, hl, hc, by unfold maxLen at hm; omega, fun h => by simp at h, fun _ => ⟨g, 0, rfl, (Array.getElem?_eq_some_iff.1 hh).1, fun i hi => ?_⟩⟩
    obtain ⟨a, c, hv, hi2⟩ := own_row_ints (h.row i hi)
    refine ⟨a, 8, c, ?_, ?_⟩
    · rw [Nat.zero_add, h.nxt.cellAt i (by omega)]
      simp [List.getElem?_map, List.getElem?_range hi, hv]
    · rw [show (nextTo ss j).getD i [] = (stAt ss i).next by simp [nextTo, List.getD, List.getElem?_map, List.getElem?_range hi]]
      exact hi2

end Go.Proofs.Ytjagijohfkffiaa
