/- The walks of AllLetters, IsLetter and the reference's word; slices of ints that are read. -/
import Derived.Test.YtjagijohfkffiaaReader
namespace Go.Proofs.Ytjagijohfkffiaa
open Go.RowKit
set_option linter.unusedVariables false

/-- The slice value has the numbers zs. -/
structure Ints (w : World) (ao : Option Addr) (len cap : Nat) (zs : List Int) : Prop where
  hlen : zs.length = len
  hcap : len ≤ cap
  hmax : cap ≤ 9223372036854775807
  hnil : ao = none → len = 0 ∧ cap = 0
  hcell : 0 < len → ∃ b off, ao = some ⟨b, off, none⟩ ∧ b < w.heap.size ∧ ∀ i, i < len → w.cell? ⟨b, off + i, none⟩ = some (.int .i64 (zs.getD i 0))

theorem Ints.below {w w' : World} {ao : Option Addr} {len cap : Nat} {zs : List Int} (h : Ints w ao len cap zs) (hb : Below w.heap.size w w') : Ints w' ao len cap zs := by
  refine ⟨h.hlen, h.hcap, h.hmax, h.hnil, fun h0 => ?_⟩
  obtain ⟨b, off, e, hlt, hc⟩ := h.hcell h0
  exact ⟨b, off, e, Nat.lt_of_lt_of_le hlt hb.size, fun i hi => by rw [hb.cell (p := ⟨b, off + i, none⟩) hlt]; exact hc i hi⟩

def isL (z : Int) : Bool := decide (0 ≤ z) && decide (z < 8)
def allL (zs : List Int) : Bool := zs.all isL

theorem isL_iff {z : Int} : isL z = true ↔ 0 ≤ z ∧ z < 8 := by simp [isL]
theorem isL_no {z : Int} (h : z < 0 ∨ 7 < z) : isL z = false := by
  cases e : isL z with
  | false => rfl
  | true => rw [isL_iff] at e; omega

set_option maxHeartbeats 400000 in
theorem isLetter_any (z : Int) (w : World) : Calls Try.prog 81 #[.int .i64 z] w fun e w' => e = .returned (.bool (isL z)) ∧ w' = w := by
  by_cases h1 : 0 ≤ z
  · by_cases h2 : z < 8
    · have H : Hid (isL z = true) := hid (by simp [isL, h1, h2])
      go_enter Try.func81, Try.ntmps81
      go_wp2
      go_ret
      exact ⟨by rw [H.out]; rfl, rfl⟩
    · have H : Hid (isL z = false) := hid (by simp [isL]; omega)
      go_enter Try.func81, Try.ntmps81
      go_wp2
      go_ret
      exact ⟨by rw [H.out]; rfl, rfl⟩
  · have H : Hid (isL z = false) := hid (by simp [isL]; omega)
    go_enter Try.func81, Try.ntmps81
    go_wp2
    go_ret
    exact ⟨by rw [H.out]; rfl, rfl⟩

theorem all_take {zs : List Int} (h : ∀ m, m < zs.length → isL (zs.getD m 0) = true) : allL zs = true := by
  unfold allL
  rw [List.all_eq_true]
  intro x hx
  obtain ⟨i, hi, rfl⟩ := List.getElem_of_mem hx
  have := h i hi
  simpa [List.getD, List.getElem?_eq_getElem hi] using this
theorem all_not {zs : List Int} {m : Nat} (hm : m < zs.length) (h : isL (zs.getD m 0) = false) : allL zs = false := by
  unfold allL
  rw [List.all_eq_false]
  refine ⟨zs[m], List.getElem_mem hm, ?_⟩
  simpa [List.getD, List.getElem?_eq_getElem hm] using h

set_option maxHeartbeats 400000 in
theorem allLetters_any (ao : Option Addr) (len cap : Nat) (zs : List Int) (w : World) (h : Ints w ao len cap zs) : Calls Try.prog 54 #[.slice ao len cap] w fun e w' => e = .returned (.bool (allL zs)) ∧ w' = w := by
  have hl := h.hlen
  have hc := h.hcap
  have hm := h.hmax
  go_enter Try.func54, Try.ntmps54
  go_wp2_with fail
  go_loop [7] (fun i => ∃ j : Nat, j ≤ len ∧ i = .int .i64 j ∧ Hid (∀ m, m < j → isL (zs.getD m 0) = true)) (fun i => len - (intOf i).toNat)
  case atStart => exact ⟨0, Nat.zero_le _, rfl, hid (fun m hm => by omega)⟩
  case round =>
    obtain ⟨j, hj, rfl, HI⟩ := hrel
    by_cases hlt : j < len
    · obtain ⟨b, off, rfl, hb, hcell⟩ := h.hcell (by omega)
      have c := hcell j hlt
      clear hcell
      cases hz : isL (zs.getD j 0) with
      | true =>
        have HZ := hid hz
        clear hz
        generalize hx : zs.getD j 0 = x at *
        have HX := hid hx
        clear hx
        go_wp2_with fail
        refine (isLetter_any x w).mono ?_
        rintro e w' ⟨rfl, rfl⟩
        rw [HZ.out]
        go_wp2_with fail
        go_round
        case rel =>
          refine ⟨j + 1, by omega, by go_num, hid (fun m hm => ?_)⟩
          by_cases e : m < j
          · exact HI.out m e
          · rw [show m = j by omega, HX.out]; exact HZ.out
        case measure => simp [intOf]; omega
      | false =>
        have HN := hid (all_not (zs := zs) (m := j) (by omega) hz)
        have HZ := hid hz
        clear hz
        generalize zs.getD j 0 = x at *
        go_wp2_with fail
        refine (isLetter_any x w).mono ?_
        rintro e w' ⟨rfl, rfl⟩
        rw [HZ.out]
        go_wp2_with fail
        go_ret
        exact ⟨by rw [HN.out]; rfl, rfl⟩
    · have HA := hid (all_take (zs := zs) (fun m hm => HI.out m (by omega)))
      go_wp2_with fail
      go_ret
      exact ⟨by rw [HA.out]; rfl, rfl⟩

set_option maxHeartbeats 400000 in
theorem rword_any (ao : Option Addr) (len cap : Nat) (zs : List Int) (w : World) (h : Ints w ao len cap zs) : Calls Try.prog 51 #[.slice ao len cap] w fun e w' => e = .returned (.bool (allL zs)) ∧ w' = w := by
  have hl := h.hlen
  have hc := h.hcap
  have hm := h.hmax
  go_enter Try.func51, Try.ntmps51
  go_wp2_with fail
  go_loop [3] (fun i => ∃ j : Nat, j ≤ len ∧ i = .int .i64 j ∧ Hid (∀ m, m < j → isL (zs.getD m 0) = true)) (fun i => len - (intOf i).toNat)
  case atStart => exact ⟨0, Nat.zero_le _, rfl, hid (fun m hm => by omega)⟩
  case round =>
    obtain ⟨j, hj, rfl, HI⟩ := hrel
    by_cases hlt : j < len
    · obtain ⟨b, off, rfl, hb, hcell⟩ := h.hcell (by omega)
      have c := hcell j hlt
      clear hcell
      by_cases h1 : zs.getD j 0 < 0
      · have HN := hid (all_not (zs := zs) (m := j) (by omega) (isL_no (by omega)))
        generalize zs.getD j 0 = x at *
        go_wp2_with fail
        go_ret
        exact ⟨by rw [HN.out]; rfl, rfl⟩
      by_cases h2 : 7 < zs.getD j 0
      · have HN := hid (all_not (zs := zs) (m := j) (by omega) (isL_no (by omega)))
        generalize zs.getD j 0 = x at *
        go_wp2_with fail
        go_ret
        exact ⟨by rw [HN.out]; rfl, rfl⟩
      have HZ : Hid (isL (zs.getD j 0) = true) := hid (by rw [isL_iff]; omega)
      generalize hx : zs.getD j 0 = x at *
      have HX := hid hx
      clear hx
      go_wp2_with fail
      go_round
      case rel =>
        refine ⟨j + 1, by omega, by go_num, hid (fun m hm => ?_)⟩
        by_cases e : m < j
        · exact HI.out m e
        · rw [show m = j by omega, HX.out]; exact HZ.out
      case measure => simp [intOf]; omega
    · have HA := hid (all_take (zs := zs) (fun m hm => HI.out m (by omega)))
      go_wp2_with fail
      go_ret
      exact ⟨by rw [HA.out]; rfl, rfl⟩

end Go.Proofs.Ytjagijohfkffiaa
