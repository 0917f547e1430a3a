import Derived.Test.YtjagijohfkffiabKINM01
import Derived.Test.YtjagijohfkffiabKINM11
import Derived.Test.YtjagijohfkffiabKINM19

/- The walks of State.fits and wellFormed. -/
namespace Go.Proofs.Ytjagijohfkffiab
open Go.RowKit
set_option linter.unusedVariables false

theorem goes_iff {n i : Nat} {fin : Bool} {k : Int} : goesB n i fin k = true ↔ 0 ≤ k ∧ k < n ∧ (fin = true → k = i) := by
  unfold goesB
  cases fin <;> simp [and_assoc]
theorem all_next {l : List Int} {p : Int → Bool} (h : ∀ m, m < l.length → p (l.getD m 0) = true) : l.all p = true := by
  rw [List.all_eq_true]
  intro x hx
  obtain ⟨i, hi, rfl⟩ := List.getElem_of_mem hx
  simpa [List.getD, List.getElem?_eq_getElem hi] using h i hi
theorem all_next_not {l : List Int} {p : Int → Bool} {m : Nat} (hm : m < l.length) (h : p (l.getD m 0) = false) : l.all p = false := by
  rw [List.all_eq_false]
  exact ⟨l[m], List.getElem_mem hm, by simpa [List.getD, List.getElem?_eq_getElem hm] using h⟩

theorem lit8 (a0 a1 a2 a3 a4 a5 a6 a7 : Int) : ∀ j, j < 8 → (#[Value.int .i64 a0, .int .i64 a1, .int .i64 a2, .int .i64 a3, .int .i64 a4, .int .i64 a5, .int .i64 a6, .int .i64 a7] : Array Value)[j]? = some (.int .i64 ([a0, a1, a2, a3, a4, a5, a6, a7].getD j 0)) := by
  intro j hj
  match j, hj with
  | 0, _ | 1, _ | 2, _ | 3, _ | 4, _ | 5, _ | 6, _ | 7, _ => rfl

theorem st_lit (o : Int) {l : List Int} (h8 : l.length = 8) : ∃ a0 a1 a2 a3 a4 a5 a6 a7, stArr ⟨o, l⟩ = #[.int .i64 o, .int .i64 a0, .int .i64 a1, .int .i64 a2, .int .i64 a3, .int .i64 a4, .int .i64 a5, .int .i64 a6, .int .i64 a7] ∧
    Hid (∀ j, j < 8 → (#[Value.int .i64 a0, .int .i64 a1, .int .i64 a2, .int .i64 a3, .int .i64 a4, .int .i64 a5, .int .i64 a6, .int .i64 a7] : Array Value)[j]? = some (.int .i64 (l.getD j 0))) := by
  obtain ⟨a0, a1, a2, a3, a4, a5, a6, a7, rfl⟩ := eight_cases h8
  exact ⟨a0, a1, a2, a3, a4, a5, a6, a7, rfl, hid (lit8 a0 a1 a2 a3 a4 a5 a6 a7)⟩

set_option maxHeartbeats 1000000 in
set_option maxRecDepth 100000 in
theorem fits_zero (l : List Int) (i0 n : Nat) (w : World) (h8 : l.length = 8) (hi : i0 < 100) (hn : n < 100) :
    Calls Try.prog 124 #[.agg (stArr ⟨0, l⟩), .int .i64 i0, .int .i64 n] w fun e w' => e = .returned (.bool (stB n i0 ⟨0, l⟩)) ∧ Below w.heap.size w w' := by
  have HB : Hid (stB n i0 ⟨0, l⟩ = l.all (goesB n i0 false)) := hid (by simp [stB, finB])
  obtain ⟨a0, a1, a2, a3, a4, a5, a6, a7, e, HX⟩ := st_lit 0 h8
  have HL := hid h8
  rw [e]
  clear e h8
  go_enter Try.func124, Try.ntmps124
  go_wp2_with fail
  generalize (#[Value.int .i64 a0, .int .i64 a1, .int .i64 a2, .int .i64 a3, .int .i64 a4, .int .i64 a5, .int .i64 a6, .int .i64 a7] : Array Value) = X at *
  go_loop [27] (fun i => ∃ j : Nat, j ≤ 8 ∧ i = .int .i64 j ∧ Hid (∀ m, m < j → goesB n i0 false (l.getD m 0) = true)) (fun i => 8 - (intOf i).toNat)
  case atStart => exact ⟨0, Nat.zero_le _, rfl, hid (fun m hm => by omega)⟩
  case round =>
    obtain ⟨j, hj, rfl, HI⟩ := hrel
    by_cases hlt : j < 8
    · have IX := fun W => run_index_one (P := Try.prog) W Try.underlying135 (run_isAgg_int Try.underlying3) (by kernel_rfl) hlt (HX.out j hlt)
      by_cases h1 : l.getD j 0 < 0
      · have HN := hid (all_next_not (l := l) (p := goesB n i0 false) (m := j) (by rw [HL.out]; exact hlt) (by
          cases e : goesB n i0 false (l.getD j 0) with
          | false => rfl
          | true => rw [goes_iff] at e; omega))
        generalize l.getD j 0 = x at *
        go_wp2_with fail
        go_ret
        exact ⟨by rw [HB.out, HN.out]; rfl, (Below.refl _ _).alloc (Nat.le_refl _) _⟩
      by_cases h2 : (n : Int) ≤ l.getD j 0
      · have HN := hid (all_next_not (l := l) (p := goesB n i0 false) (m := j) (by rw [HL.out]; exact hlt) (by
          cases e : goesB n i0 false (l.getD j 0) with
          | false => rfl
          | true => rw [goes_iff] at e; omega))
        generalize l.getD j 0 = x at *
        go_wp2_with fail
        go_ret
        exact ⟨by rw [HB.out, HN.out]; rfl, (Below.refl _ _).alloc (Nat.le_refl _) _⟩
      have HG := hid ((goes_iff (n := n) (i := i0) (fin := false) (k := l.getD j 0)).2 ⟨by omega, by omega, fun h => by cases h⟩)
      generalize hx : l.getD j 0 = x at *
      have HE := hid hx
      clear hx
      go_wp2_with fail
      go_round
      case rel =>
        refine ⟨j + 1, by omega, by go_num, hid (fun m hm => ?_)⟩
        by_cases e : m < j
        · exact HI.out m e
        · rw [show m = j by omega, HE.out]; exact HG.out
      case measure => simp [intOf]; omega
    · have HA := hid (all_next (l := l) (p := goesB n i0 false) (fun m hm => HI.out m (by rw [HL.out] at hm; omega)))
      go_wp2_with fail
      go_ret
      exact ⟨by rw [HB.out, HA.out]; rfl, (Below.refl _ _).alloc (Nat.le_refl _) _⟩

set_option maxHeartbeats 1000000 in
set_option maxRecDepth 100000 in
theorem fits_one (l : List Int) (i0 n : Nat) (w : World) (h8 : l.length = 8) (hi : i0 < 100) (hn : n < 100) :
    Calls Try.prog 124 #[.agg (stArr ⟨1, l⟩), .int .i64 i0, .int .i64 n] w fun e w' => e = .returned (.bool (stB n i0 ⟨1, l⟩)) ∧ Below w.heap.size w w' := by
  have HB : Hid (stB n i0 ⟨1, l⟩ = l.all (goesB n i0 true)) := hid (by simp [stB, finB])
  obtain ⟨a0, a1, a2, a3, a4, a5, a6, a7, e, HX⟩ := st_lit 1 h8
  have HL := hid h8
  rw [e]
  clear e h8
  go_enter Try.func124, Try.ntmps124
  go_wp2_with fail
  generalize (#[Value.int .i64 a0, .int .i64 a1, .int .i64 a2, .int .i64 a3, .int .i64 a4, .int .i64 a5, .int .i64 a6, .int .i64 a7] : Array Value) = X at *
  go_loop [27] (fun i => ∃ j : Nat, j ≤ 8 ∧ i = .int .i64 j ∧ Hid (∀ m, m < j → goesB n i0 true (l.getD m 0) = true)) (fun i => 8 - (intOf i).toNat)
  case atStart => exact ⟨0, Nat.zero_le _, rfl, hid (fun m hm => by omega)⟩
  case round =>
    obtain ⟨j, hj, rfl, HI⟩ := hrel
    by_cases hlt : j < 8
    · have IX := fun W => run_index_one (P := Try.prog) W Try.underlying135 (run_isAgg_int Try.underlying3) (by kernel_rfl) hlt (HX.out j hlt)
      by_cases h1 : l.getD j 0 < 0
      · have HN := hid (all_next_not (l := l) (p := goesB n i0 true) (m := j) (by rw [HL.out]; exact hlt) (by
          cases e : goesB n i0 true (l.getD j 0) with
          | false => rfl
          | true => rw [goes_iff] at e; omega))
        generalize l.getD j 0 = x at *
        go_wp2_with fail
        go_ret
        exact ⟨by rw [HB.out, HN.out]; rfl, (Below.refl _ _).alloc (Nat.le_refl _) _⟩
      by_cases h2 : (n : Int) ≤ l.getD j 0
      · have HN := hid (all_next_not (l := l) (p := goesB n i0 true) (m := j) (by rw [HL.out]; exact hlt) (by
          cases e : goesB n i0 true (l.getD j 0) with
          | false => rfl
          | true => rw [goes_iff] at e; omega))
        generalize l.getD j 0 = x at *
        go_wp2_with fail
        go_ret
        exact ⟨by rw [HB.out, HN.out]; rfl, (Below.refl _ _).alloc (Nat.le_refl _) _⟩
      by_cases h3 : l.getD j 0 = (i0 : Int)
      · have HG := hid ((goes_iff (n := n) (i := i0) (fin := true) (k := l.getD j 0)).2 ⟨by omega, by omega, fun _ => h3⟩)
        have k3 : ((l.getD j 0) == (i0 : Int)) = true := beq_iff_eq.2 h3
        clear h3
        generalize hx : l.getD j 0 = x at *
        have HE := hid hx
        clear hx
        go_wp2_with fail
        go_round
        case rel =>
          refine ⟨j + 1, by omega, by go_num, hid (fun m hm => ?_)⟩
          by_cases e : m < j
          · exact HI.out m e
          · rw [show m = j by omega, HE.out]; exact HG.out
        case measure => simp [intOf]; omega
      · have HN := hid (all_next_not (l := l) (p := goesB n i0 true) (m := j) (by rw [HL.out]; exact hlt) (by
          cases e : goesB n i0 true (l.getD j 0) with
          | false => rfl
          | true => rw [goes_iff] at e; exact absurd (e.2.2 rfl) h3))
        have k3 : ((l.getD j 0) == (i0 : Int)) = false := beq_eq_false_iff_ne.2 h3
        clear h3
        generalize l.getD j 0 = x at *
        go_wp2_with fail
        go_ret
        exact ⟨by rw [HB.out, HN.out]; rfl, (Below.refl _ _).alloc (Nat.le_refl _) _⟩
    · have HA := hid (all_next (l := l) (p := goesB n i0 true) (fun m hm => HI.out m (by rw [HL.out] at hm; omega)))
      go_wp2_with fail
      go_ret
      exact ⟨by rw [HB.out, HA.out]; rfl, (Below.refl _ _).alloc (Nat.le_refl _) _⟩

set_option maxHeartbeats 1000000 in
set_option maxRecDepth 100000 in
theorem fits_two (l : List Int) (i0 n : Nat) (w : World) (h8 : l.length = 8) (hi : i0 < 100) (hn : n < 100) :
    Calls Try.prog 124 #[.agg (stArr ⟨2, l⟩), .int .i64 i0, .int .i64 n] w fun e w' => e = .returned (.bool (stB n i0 ⟨2, l⟩)) ∧ Below w.heap.size w w' := by
  have HB : Hid (stB n i0 ⟨2, l⟩ = l.all (goesB n i0 true)) := hid (by simp [stB, finB])
  obtain ⟨a0, a1, a2, a3, a4, a5, a6, a7, e, HX⟩ := st_lit 2 h8
  have HL := hid h8
  rw [e]
  clear e h8
  go_enter Try.func124, Try.ntmps124
  go_wp2_with fail
  generalize (#[Value.int .i64 a0, .int .i64 a1, .int .i64 a2, .int .i64 a3, .int .i64 a4, .int .i64 a5, .int .i64 a6, .int .i64 a7] : Array Value) = X at *
  go_loop [27] (fun i => ∃ j : Nat, j ≤ 8 ∧ i = .int .i64 j ∧ Hid (∀ m, m < j → goesB n i0 true (l.getD m 0) = true)) (fun i => 8 - (intOf i).toNat)
  case atStart => exact ⟨0, Nat.zero_le _, rfl, hid (fun m hm => by omega)⟩
  case round =>
    obtain ⟨j, hj, rfl, HI⟩ := hrel
    by_cases hlt : j < 8
    · have IX := fun W => run_index_one (P := Try.prog) W Try.underlying135 (run_isAgg_int Try.underlying3) (by kernel_rfl) hlt (HX.out j hlt)
      by_cases h1 : l.getD j 0 < 0
      · have HN := hid (all_next_not (l := l) (p := goesB n i0 true) (m := j) (by rw [HL.out]; exact hlt) (by
          cases e : goesB n i0 true (l.getD j 0) with
          | false => rfl
          | true => rw [goes_iff] at e; omega))
        generalize l.getD j 0 = x at *
        go_wp2_with fail
        go_ret
        exact ⟨by rw [HB.out, HN.out]; rfl, (Below.refl _ _).alloc (Nat.le_refl _) _⟩
      by_cases h2 : (n : Int) ≤ l.getD j 0
      · have HN := hid (all_next_not (l := l) (p := goesB n i0 true) (m := j) (by rw [HL.out]; exact hlt) (by
          cases e : goesB n i0 true (l.getD j 0) with
          | false => rfl
          | true => rw [goes_iff] at e; omega))
        generalize l.getD j 0 = x at *
        go_wp2_with fail
        go_ret
        exact ⟨by rw [HB.out, HN.out]; rfl, (Below.refl _ _).alloc (Nat.le_refl _) _⟩
      by_cases h3 : l.getD j 0 = (i0 : Int)
      · have HG := hid ((goes_iff (n := n) (i := i0) (fin := true) (k := l.getD j 0)).2 ⟨by omega, by omega, fun _ => h3⟩)
        have k3 : ((l.getD j 0) == (i0 : Int)) = true := beq_iff_eq.2 h3
        clear h3
        generalize hx : l.getD j 0 = x at *
        have HE := hid hx
        clear hx
        go_wp2_with fail
        go_round
        case rel =>
          refine ⟨j + 1, by omega, by go_num, hid (fun m hm => ?_)⟩
          by_cases e : m < j
          · exact HI.out m e
          · rw [show m = j by omega, HE.out]; exact HG.out
        case measure => simp [intOf]; omega
      · have HN := hid (all_next_not (l := l) (p := goesB n i0 true) (m := j) (by rw [HL.out]; exact hlt) (by
          cases e : goesB n i0 true (l.getD j 0) with
          | false => rfl
          | true => rw [goes_iff] at e; exact absurd (e.2.2 rfl) h3))
        have k3 : ((l.getD j 0) == (i0 : Int)) = false := beq_eq_false_iff_ne.2 h3
        clear h3
        generalize l.getD j 0 = x at *
        go_wp2_with fail
        go_ret
        exact ⟨by rw [HB.out, HN.out]; rfl, (Below.refl _ _).alloc (Nat.le_refl _) _⟩
    · have HA := hid (all_next (l := l) (p := goesB n i0 true) (fun m hm => HI.out m (by rw [HL.out] at hm; omega)))
      go_wp2_with fail
      go_ret
      exact ⟨by rw [HB.out, HA.out]; rfl, (Below.refl _ _).alloc (Nat.le_refl _) _⟩

set_option maxHeartbeats 1000000 in
theorem fits_none (o : Int) (l : List Int) (i0 n : Nat) (w : World) (h8 : l.length = 8) (h0 : o ≠ 0) (h1 : o ≠ 1) (h2 : o ≠ 2) :
    Calls Try.prog 124 #[.agg (stArr ⟨o, l⟩), .int .i64 i0, .int .i64 n] w fun e w' => e = .returned (.bool (stB n i0 ⟨o, l⟩)) ∧ Below w.heap.size w w' := by
  have HB : Hid (stB n i0 ⟨o, l⟩ = false) := hid (by simp [stB, finB, h0, h1, h2])
  have k0 : (o == 0) = false := beq_eq_false_iff_ne.2 h0
  have k1 : (o == 1) = false := beq_eq_false_iff_ne.2 h1
  have k2 : (o == 2) = false := beq_eq_false_iff_ne.2 h2
  obtain ⟨a0, a1, a2, a3, a4, a5, a6, a7, e, HX⟩ := st_lit o h8
  rw [e]
  clear e h0 h1 h2
  go_enter Try.func124, Try.ntmps124
  go_wp2_with fail
  go_ret
  exact ⟨by rw [HB.out]; rfl, (Below.refl _ _).alloc (Nat.le_refl _) _⟩

theorem fits_any (s : St) (i0 n : Nat) (w : World) (h8 : s.next.length = 8) (hi : i0 < 100) (hn : n < 100) :
    Calls Try.prog 124 #[.agg (stArr s), .int .i64 i0, .int .i64 n] w fun e w' => e = .returned (.bool (stB n i0 s)) ∧ Below w.heap.size w w' := by
  obtain ⟨o, l⟩ := s
  by_cases h0 : o = 0
  · subst h0; exact fits_zero l i0 n w h8 hi hn
  by_cases h1 : o = 1
  · subst h1; exact fits_one l i0 n w h8 hi hn
  by_cases h2 : o = 2
  · subst h2; exact fits_two l i0 n w h8 hi hn
  exact fits_none o l i0 n w h8 h0 h1 h2

theorem wfB_no {ss : List St} {j : Nat} (hj : j < ss.length) (h : stB ss.length j (stAt ss j) = false) : wfB ss = false := by
  cases e : wfB ss with
  | false => rfl
  | true => rw [wfB_iff] at e; rw [e.2.2 j hj] at h; cases h

/-- The cells of state j. -/
theorem own_state {w : World} {B n cap g : Nat} {ss : List St} (h : w.ownsRow B 137 9 (.slice (some ⟨g, 0, none⟩) n cap) n (flatS ss)) (h8 : Eight ss) (hn : ss.length = n) {j : Nat} (hj : j < n) :
    ∀ k, k < 9 → w.cell? ⟨g, j * 9 + k, none⟩ = (stCells (stAt ss j))[k]? := fun k hk => by
  rw [h.cellAt (j * 9 + k) (by omega)]
  exact flatS_get h8 (by omega) hk

set_option maxHeartbeats 1000000 in
theorem wf_bad (ao : Option Addr) (n cap : Nat) (ss : List St) (w : World) (hl : ss.length = n) (hn : n < 1 ∨ 8 < n) (hm : n ≤ 1000) :
    Calls Try.prog 99 #[.slice ao n cap] w fun e w' => e = .returned (.bool (wfB ss)) ∧ Below w.heap.size w w' := by
  have HB : Hid (wfB ss = false) := hid (by
    cases e : wfB ss with
    | false => rfl
    | true => rw [wfB_iff] at e; omega)
  clear hl
  rcases hn with hn | hn
  · obtain rfl : n = 0 := by omega
    go_enter Try.func99, Try.ntmps99
    go_wp2_with fail
    go_ret
    exact ⟨by rw [HB.out]; rfl, Below.refl _ _⟩
  · have h1 : ¬ n < 1 := by omega
    go_enter Try.func99, Try.ntmps99
    go_wp2_with fail
    go_ret
    exact ⟨by rw [HB.out]; rfl, Below.refl _ _⟩

set_option maxHeartbeats 2000000 in
set_option maxRecDepth 100000 in
theorem wf_good (g n cap B : Nat) (ss : List St) (w : World) (hr : w.ownsRow B 137 9 (.slice (some ⟨g, 0, none⟩) n cap) n (flatS ss)) (h8 : Eight ss) (hl : ss.length = n) (hn : 1 ≤ n) (hm : n ≤ 8) (hg : g < w.heap.size) (hcap : n ≤ cap) :
    Calls Try.prog 99 #[.slice (some ⟨g, 0, none⟩) n cap] w fun e w' => e = .returned (.bool (wfB ss)) ∧ Below w.heap.size w w' := by
  have HR := hid hr
  clear hr
  have h1 : ¬ n < 1 := by omega
  have h2 : ¬ 8 < n := by omega
  go_enter Try.func99, Try.ntmps99
  go_wp2_with fail
  go_loopw [15] (fun i wr => ∃ j : Nat, j ≤ n ∧ i = .int .i64 j ∧ Hid (∀ m, m < j → stB n m (stAt ss m) = true) ∧ Below w.heap.size w wr) (fun i _ => n - (intOf i).toNat)
  case atStart => exact ⟨0, Nat.zero_le _, rfl, hid (fun m hm => by omega), Below.refl _ _⟩
  case round =>
    obtain ⟨j, hj, rfl, HI, hb⟩ := hrel
    by_cases hlt : j < n
    · have S := own_state HR.out h8 hl hlt
      have hs8 := eight_at h8 (i := j) (by omega)
      have F := fun W => fits_any (stAt ss j) j n W hs8 (by omega) (by omega)
      have HN : Hid (stB n j (stAt ss j) = false → wfB ss = false) := hid (fun h => wfB_no (j := j) (by omega) (by rw [hl]; exact h))
      obtain ⟨a0, a1, a2, a3, a4, a5, a6, a7, ea, _⟩ := st_lit (stAt ss j).out hs8
      rw [show (⟨(stAt ss j).out, (stAt ss j).next⟩ : St) = stAt ss j from rfl] at ea
      have ec : stCells (stAt ss j) = [.int .i64 (stAt ss j).out, .int .i64 a0, .int .i64 a1, .int .i64 a2, .int .i64 a3, .int .i64 a4, .int .i64 a5, .int .i64 a6, .int .i64 a7] := by
        have := congrArg Array.toList ea
        simpa [stArr] using this
      rw [ec] at S
      rw [ea] at F
      generalize (stAt ss j).out = o at *
      have c0 := (hb.cell (p := ⟨g, j * 9, none⟩) hg).trans (S 0 (by decide))
      have c1 := (hb.cell (p := ⟨g, j * 9 + 1, none⟩) hg).trans (S 1 (by decide))
      have c2 := (hb.cell (p := ⟨g, j * 9 + 2, none⟩) hg).trans (S 2 (by decide))
      have c3 := (hb.cell (p := ⟨g, j * 9 + 3, none⟩) hg).trans (S 3 (by decide))
      have c4 := (hb.cell (p := ⟨g, j * 9 + 4, none⟩) hg).trans (S 4 (by decide))
      have c5 := (hb.cell (p := ⟨g, j * 9 + 5, none⟩) hg).trans (S 5 (by decide))
      have c6 := (hb.cell (p := ⟨g, j * 9 + 6, none⟩) hg).trans (S 6 (by decide))
      have c7 := (hb.cell (p := ⟨g, j * 9 + 7, none⟩) hg).trans (S 7 (by decide))
      have c8 := (hb.cell (p := ⟨g, j * 9 + 8, none⟩) hg).trans (S 8 (by decide))
      simp only [List.getElem?_cons_succ, List.getElem?_cons_zero] at c0 c1 c2 c3 c4 c5 c6 c7 c8
      clear S ea ec
      cases ev : stB n j (stAt ss j) with
      | true =>
        have HV := hid ev
        clear ev
        go_wp2_with fail
        refine (F _).mono ?_
        rintro e w2 ⟨rfl, hb2⟩
        rw [HV.out]
        have B2 := hid (hb.trans (((Below.refl _ _).alloc hb.size _).trans (hb2.mono (by have := hb.size; simp; omega))))
        clear hb2 c0 c1 c2 c3 c4 c5 c6 c7 c8
        go_wp2_with fail
        go_roundw
        case rel =>
          refine ⟨j + 1, by omega, by go_num, hid (fun m hm => ?_), B2.out⟩
          by_cases e : m < j
          · exact HI.out m e
          · rw [show m = j by omega]; exact HV.out
        case measure => simp [intOf]; omega
      | false =>
        have HV := hid ev
        clear ev
        go_wp2_with fail
        refine (F _).mono ?_
        rintro e w2 ⟨rfl, hb2⟩
        rw [HV.out]
        have B2 := hid (hb.trans (((Below.refl _ _).alloc hb.size _).trans (hb2.mono (by have := hb.size; simp; omega))))
        clear hb2 c0 c1 c2 c3 c4 c5 c6 c7 c8
        go_wp2_with fail
        go_ret
        exact ⟨by rw [HN.out HV.out]; rfl, B2.out⟩
    · have HA : Hid (wfB ss = true) := hid (wfB_iff.2 ⟨by omega, by omega, fun i hi => by rw [hl]; exact HI.out i (by omega)⟩)
      go_wp2_with fail
      go_ret
      exact ⟨by rw [HA.out]; rfl, hb⟩

end Go.Proofs.Ytjagijohfkffiab
