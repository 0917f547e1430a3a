import Derived.Test.YtjagijohfkffiabKINM28
import Derived.Test.YtjagijohfkffiabKINM33

/- The walk of verdictkeep's formed. -/
namespace Go.Proofs.Ytjagijohfkffiab
open Go.RowKit
set_option linter.unusedVariables false

section
variable (a1 a2 : Option Addr) (l1 c1 l2 c2 : Nat) (os : List Int) (ls : List (List Int)) (w : World)

set_option maxHeartbeats 400000 in
theorem kformed_bad (h1 : Ints w a1 l1 c1 os) (h2 : Lists w a2 l2 c2 ls) (h : l1 = 0 ∨ 8 < l1 ∨ l2 ≠ l1) : Calls Try.prog 20 #[.agg #[.slice a1 l1 c1, .slice a2 l2 c2]] w fun e w' => e = .returned (.bool (formedB os ls)) ∧ Below w.heap.size w w' := by
  have E : Hid (formedB os ls = false) := hid (formed_no fun e => by
    have e2 := formed_len e
    have e3 := wfB_iff.1 e2.2.2
    rw [zip_len e2.1, h1.hlen] at e3
    have := e2.1
    rw [h1.hlen, h2.hlen] at this
    omega)
  have m1 := h1.hmax
  have m3 := h1.hcap
  have m2 := h2.hmax
  have m4 := h2.hcap
  by_cases k1 : l1 = 0
  · subst k1
    go_enter Try.func20, Try.ntmps20
    go_wp2_with fail
    go_ret
    exact ⟨by rw [E.out]; rfl, (Below.refl _ _).alloc (Nat.le_refl _) _⟩
  have q1 : decide ((l1 : Int) < 1) = false := by simp; omega
  by_cases k2 : 8 < l1
  · have q2 : (8 : Int) < (l1 : Int) := by omega
    go_enter Try.func20, Try.ntmps20
    go_wp2_with fail
    go_ret
    exact ⟨by rw [E.out]; rfl, (Below.refl _ _).alloc (Nat.le_refl _) _⟩
  have q2 : decide ((8 : Int) < (l1 : Int)) = false := by simp; omega
  have k3 : ((l2 : Int) != (l1 : Int)) = true := bne_iff_ne.2 (by omega)
  go_enter Try.func20, Try.ntmps20
  go_wp2_with fail
  go_ret
  exact ⟨by rw [E.out]; rfl, (Below.refl _ _).alloc (Nat.le_refl _) _⟩

set_option maxHeartbeats 4000000 in
set_option maxRecDepth 100000 in
theorem kformed_walk (h1 : Ints w a1 l1 c1 os) (h2 : Lists w a2 l1 c2 ls) (hp : 1 ≤ l1) (h8 : l1 ≤ 8) : Calls Try.prog 20 #[.agg #[.slice a1 l1 c1, .slice a2 l1 c2]] w fun e w' => e = .returned (.bool (formedB os ls)) ∧ Below w.heap.size w w' := by
  have m1 := h1.hmax
  have m3 := h1.hcap
  have m2 := h2.hmax
  have m4 := h2.hcap
  have L1 := h1.hlen
  have L2 := h2.hlen
  have q1 : decide ((l1 : Int) < 1) = false := by simp; omega
  have q2 : decide ((8 : Int) < (l1 : Int)) = false := by simp; omega
  have HF := hid (formed_rows (os := os) (ls := ls) (by omega) (by omega) (by omega))
  rw [L1] at HF
  obtain ⟨b1, o1, rfl, hlt1, hc1⟩ := h1.hcell (by omega)
  obtain ⟨b2, o2, rfl, hlt2, hc2⟩ := h2.hcell (by omega)
  have T0 := hid (two_new w (.slice (some ⟨b1, o1, none⟩) l1 c1) (.slice (some ⟨b2, o2, none⟩) l1 c2) 35)
  have BA := hid ((Below.refl w.heap.size w).alloc (Nat.le_refl _) (.cells #[.slice (some ⟨b1, o1, none⟩) l1 c1, .slice (some ⟨b2, o2, none⟩) l1 c2] 35))
  have NO : Hid (∀ i, i < l1 → rowB l1 i (os.getD i 0) (ls.getD i []) = false → formedB os ls = false) := hid (fun i hi hr => formed_no fun e => by
    have := HF.out.1 e i hi
    rw [hr] at this
    cases this)
  have x0 := T0.out.c0
  have x1 := T0.out.c1
  go_enter Try.func20, Try.ntmps20
  go_wp2_with fail
  go_loopw [4] (fun i wr => ∃ (j : Nat), j ≤ l1 ∧ i = .int .i64 j ∧ wr = w.alloc (.cells #[.slice (some ⟨b1, o1, none⟩) l1 c1, .slice (some ⟨b2, o2, none⟩) l1 c2] 35) ∧ Hid (∀ m, m < j → rowB l1 m (os.getD m 0) (ls.getD m []) = true)) (fun i _ => l1 - (intOf i).toNat)
  case atStart => exact ⟨0, Nat.zero_le _, rfl, rfl, hid (fun m hm => by omega)⟩
  case round =>
    obtain ⟨j, hj, rfl, rfl, HI⟩ := hrel
    by_cases hlt : j < l1
    · obtain ⟨ra, rl, rc, cr, hr⟩ := hc2 j hlt
      have cr' := (BA.out.cell (p := ⟨b2, o2 + j, none⟩) hlt2).trans cr
      have cO := (BA.out.cell (p := ⟨b1, o1 + j, none⟩) hlt1).trans (hc1 j hlt)
      have rl' := hr.hlen
      have rcap := hr.hcap
      have rmax := hr.hmax
      have NOJ := hid (NO.out j hlt)
      generalize hrow : ls.getD j [] = row at *
      generalize ho : os.getD j 0 = o at *
      have HRW := hid hrow
      have HOW := hid ho
      clear hrow ho
      cases hbs : bsB o row with
      | false =>
        have HN : Hid (formedB os ls = false) := hid (NOJ.out (by unfold rowB; rw [hbs]; rfl))
        unfold bsB at hbs
        by_cases g1 : o < 0
        · go_wp2_with fail
          go_ret
          exact ⟨by rw [HN.out]; rfl, BA.out⟩
        · have g1' : decide (o < 0) = false := by simp; omega
          by_cases g2 : 2 < o
          · go_wp2_with fail
            go_ret
            exact ⟨by rw [HN.out]; rfl, BA.out⟩
          · have g2' : decide (2 < o) = false := by simp; omega
            have g3 : ¬ rl = 8 := fun e => by
              have : decide (row.length = 8) = true := by simp; omega
              simp [this, show (0 : Int) ≤ o by omega, show o ≤ 2 by omega] at hbs
            have g3' : ((rl : Int) != 8) = true := bne_iff_ne.2 (by omega)
            go_wp2_with fail
            go_ret
            exact ⟨by rw [HN.out]; rfl, BA.out⟩
      | true =>
        have HBS := hid hbs
        unfold bsB at hbs
        simp only [Bool.and_eq_true, decide_eq_true_eq] at hbs
        obtain ⟨⟨e8, y0⟩, y2⟩ := hbs
        obtain rfl : rl = 8 := by omega
        have y0' : decide (o < 0) = false := by simp; omega
        have y2' : decide (2 < o) = false := by simp; omega
        obtain ⟨br, or, rfl, hltr, hcr⟩ := hr.hcell (by omega)
        go_wp2_with fail
        go_loopw [5] (fun i wr => ∃ (a : Nat), a ≤ 8 ∧ i = .int .i64 a ∧ wr = w.alloc (.cells #[.slice (some ⟨b1, o1, none⟩) l1 c1, .slice (some ⟨b2, o2, none⟩) l1 c2] 35) ∧ Hid (∀ m, m < a → rB l1 j o (row.getD m 0) = true)) (fun i _ => 8 - (intOf i).toNat)
        case atStart => exact ⟨0, Nat.zero_le _, rfl, rfl, hid (fun m hm => by omega)⟩
        case round =>
          obtain ⟨a, ha, rfl, rfl, HA⟩ := hrel
          by_cases hla : a < 8
          · have cK := (BA.out.cell (p := ⟨br, or + a, none⟩) hltr).trans (hcr a hla)
            have HNA : Hid (rB l1 j o (row.getD a 0) = false → formedB os ls = false) := hid (fun hf => NOJ.out (by
              unfold rowB
              rw [HBS.out, Bool.true_and]
              rw [Bool.eq_false_iff]
              intro hall
              rw [List.all_eq_true] at hall
              have := hall (row.getD a 0) (by
                rw [List.getD, List.getElem?_eq_getElem (show a < row.length by omega)]
                exact List.getElem_mem _)
              rw [hf] at this
              cases this))
            have HNX : Hid (rB l1 j o (row.getD a 0) = true → ∀ m, m < a + 1 → rB l1 j o (row.getD m 0) = true) := hid (fun hf m hm => by
              by_cases c : m = a
              · subst c; exact hf
              · exact HA.out m (by omega))
            generalize row.getD a 0 = k at *
            by_cases g1 : k < 0
            · have HN := hid (HNA.out (by unfold rB; simp; omega))
              go_wp2_with fail
              go_ret
              exact ⟨by rw [HN.out]; rfl, BA.out⟩
            · have g1' : decide (k < 0) = false := by simp; omega
              by_cases g2 : (l1 : Int) ≤ k
              · have HN := hid (HNA.out (by unfold rB; simp; omega))
                go_wp2_with fail
                go_ret
                exact ⟨by rw [HN.out]; rfl, BA.out⟩
              · have g2' : decide ((l1 : Int) ≤ k) = false := by simp; omega
                by_cases g3 : o = 0
                · have HN := hid (HNX.out (by unfold rB; simp [g3]; omega))
                  have g3' : (o != 0) = false := by simp [g3]
                  clear g3
                  go_wp2_with fail
                  go_roundw
                  case rel => exact ⟨a + 1, by omega, by go_num, trivial, HN⟩
                  case measure => simp [intOf]; omega
                · have g3' : (o != 0) = true := bne_iff_ne.2 g3
                  by_cases g4 : k = (j : Int)
                  · have HN := hid (HNX.out (by unfold rB; simp [g4]; omega))
                    have g4' : (k != (j : Int)) = false := by simp [g4]
                    clear g4 g3
                    go_wp2_with fail
                    go_roundw
                    case rel => exact ⟨a + 1, by omega, by go_num, trivial, HN⟩
                    case measure => simp [intOf]; omega
                  · have HN := hid (HNA.out (by unfold rB; simp [g3, g4]))
                    have g4' : (k != (j : Int)) = true := bne_iff_ne.2 g4
                    clear g3 g4
                    go_wp2_with fail
                    go_ret
                    exact ⟨by rw [HN.out]; rfl, BA.out⟩
          · obtain rfl : a = 8 := by omega
            have HJ : Hid (∀ m, m < j + 1 → rowB l1 m (os.getD m 0) (ls.getD m []) = true) := hid (fun m hm => by
              by_cases c : m = j
              · subst c
                rw [HRW.out, HOW.out]
                unfold rowB
                rw [HBS.out, Bool.true_and, List.all_eq_true]
                intro x hx
                obtain ⟨i, hi, e⟩ := List.getElem_of_mem hx
                have := HA.out i (by omega)
                rw [List.getD, List.getElem?_eq_getElem hi] at this
                rw [← e]
                exact this
              · exact HI.out m (by omega))
            go_wp2_with fail
            go_roundw
            case rel => exact ⟨j + 1, by omega, by go_num, trivial, HJ⟩
            case measure => simp [intOf]; omega
    · obtain rfl : j = l1 := by omega
      have HY := hid (HF.out.2 (fun i hi => HI.out i hi))
      go_wp2_with fail
      go_ret
      exact ⟨by rw [HY.out]; rfl, BA.out⟩

theorem kformed_any (h1 : Ints w a1 l1 c1 os) (h2 : Lists w a2 l2 c2 ls) : Calls Try.prog 20 #[.agg #[.slice a1 l1 c1, .slice a2 l2 c2]] w fun e w' => e = .returned (.bool (formedB os ls)) ∧ Below w.heap.size w w' := by
  by_cases h : l1 = 0 ∨ 8 < l1 ∨ l2 ≠ l1
  · exact kformed_bad a1 a2 l1 c1 l2 c2 os ls w h1 h2 h
  · obtain rfl : l2 = l1 := by omega
    exact kformed_walk a1 a2 l2 c1 c2 os ls w h1 h2 (by omega) (by omega)
end

end Go.Proofs.Ytjagijohfkffiab

/- A machine in memory, as it is read. -/
namespace Go.Proofs.Ytjagijohfkffiab
open Go.RowKit
set_option linter.unusedVariables false

structure MaR (w : World) (b1 o1 b2 o2 n : Nat) (out : Nat → Nat) (nx : Nat → Nat → Nat) : Prop where
  l1 : b1 < w.heap.size
  l2 : b2 < w.heap.size
  o : ∀ i, i < n → w.cell? ⟨b1, o1 + i, none⟩ = some (.int .i64 (out i : Nat))
  x : ∀ i, i < n → ∃ r ro rc, w.cell? ⟨b2, o2 + i, none⟩ = some (.slice (some ⟨r, ro, none⟩) 8 rc) ∧ 8 ≤ rc ∧ rc ≤ 9223372036854775807 ∧ r < w.heap.size ∧ ∀ a, a < 8 → w.cell? ⟨r, ro + a, none⟩ = some (.int .i64 (nx i a : Nat))
theorem MaR.below {w w' : World} {b1 o1 b2 o2 n : Nat} {out : Nat → Nat} {nx : Nat → Nat → Nat} (h : MaR w b1 o1 b2 o2 n out nx) (hb : Below w.heap.size w w') : MaR w' b1 o1 b2 o2 n out nx := by
  refine ⟨Nat.lt_of_lt_of_le h.l1 hb.size, Nat.lt_of_lt_of_le h.l2 hb.size, fun i hi => (hb.cell (p := ⟨b1, o1 + i, none⟩) h.l1).trans (h.o i hi), fun i hi => ?_⟩
  obtain ⟨r, ro, rc, h1, h2, h3, h4, h5⟩ := h.x i hi
  exact ⟨r, ro, rc, (hb.cell (p := ⟨b2, o2 + i, none⟩) h.l2).trans h1, h2, h3, Nat.lt_of_lt_of_le h4 hb.size, fun a ha => (hb.cell (p := ⟨r, ro + a, none⟩) h4).trans (h5 a ha)⟩

theorem stK_next (o : Nat) (f : Nat → Nat) {a : Nat} (ha : a < 8) : (stK o f).next.getD a 0 = (f a : Int) := by
  have : a = 0 ∨ a = 1 ∨ a = 2 ∨ a = 3 ∨ a = 4 ∨ a = 5 ∨ a = 6 ∨ a = 7 := by omega
  rcases this with rfl | rfl | rfl | rfl | rfl | rfl | rfl | rfl <;> rfl

/-- The machine that Watch lays, as it is read. -/
theorem mar_of {w : World} {a1 a2 : Option Addr} {c1 c2 : Nat} {ss : List St} {out : Nat → Nat} {nx : Nat → Nat → Nat} (h1 : Ints w a1 ss.length c1 (outsTo ss ss.length)) (h2 : Lists w a2 ss.length c2 (nextTo ss ss.length)) (hs : ∀ c, c < ss.length → ss[c]? = some (stK (out c) (nx c))) (h0 : 0 < ss.length) :
    ∃ b1 o1 b2 o2, a1 = some ⟨b1, o1, none⟩ ∧ a2 = some ⟨b2, o2, none⟩ ∧ MaR w b1 o1 b2 o2 ss.length out nx := by
  obtain ⟨b1, o1, e1, hb1, hc1⟩ := h1.hcell h0
  obtain ⟨b2, o2, e2, hb2, hc2⟩ := h2.hcell h0
  have st : ∀ i, i < ss.length → stAt ss i = stK (out i) (nx i) := fun i hi => by simp [stAt, List.getD, hs i hi]
  refine ⟨b1, o1, b2, o2, e1, e2, hb1, hb2, fun i hi => ?_, fun i hi => ?_⟩
  · rw [hc1 i hi]
    rw [show (outsTo ss ss.length).getD i 0 = (stAt ss i).out by simp [outsTo, List.getD, List.getElem?_map, List.getElem?_range hi], st i hi]
    rfl
  · obtain ⟨r, rl, rc, k1, k2⟩ := hc2 i hi
    rw [show (nextTo ss ss.length).getD i [] = (stAt ss i).next by simp [nextTo, List.getD, List.getElem?_map, List.getElem?_range hi], st i hi] at k2
    have hl := k2.hlen
    obtain rfl : rl = 8 := by rw [← hl]; rfl
    obtain ⟨br, ro, rfl, hr, hcr⟩ := k2.hcell (by omega)
    exact ⟨br, ro, rc, k1, k2.hcap, k2.hmax, hr, fun a ha => by rw [hcr a ha, stK_next _ _ ha]⟩

end Go.Proofs.Ytjagijohfkffiab
