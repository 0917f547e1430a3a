/- The walks of the reference's Formed and Write. -/
import Derived.Test.YtjagijohfkffiaaWBytes
namespace Go.Proofs.Ytjagijohfkffiaa
open Go.RowKit
set_option linter.unusedVariables false

def rB (n i : Nat) (o k : Int) : Bool := decide (0 ≤ k) && decide (k < n) && (decide (o = 0) || decide (k = i))
def bsB (o : Int) (l : List Int) : Bool := decide (l.length = 8) && decide (0 ≤ o) && decide (o ≤ 2)
def rowB (n i : Nat) (o : Int) (l : List Int) : Bool := bsB o l && l.all (rB n i o)

theorem rB_goes {n i : Nat} {o k : Int} (h0 : 0 ≤ o) (h2 : o ≤ 2) : rB n i o k = goesB n i (finB o) k := by
  unfold rB goesB finB
  have : o = 0 ∨ o = 1 ∨ o = 2 := by omega
  rcases this with rfl | rfl | rfl <;> simp
theorem rowB_st {n i : Nat} {o : Int} {l : List Int} : rowB n i o l = (decide (l.length = 8) && stB n i ⟨o, l⟩) := by
  unfold rowB bsB stB
  by_cases h0 : 0 ≤ o
  · by_cases h2 : o ≤ 2
    · have e : (rB n i o) = goesB n i (finB o) := funext fun k => rB_goes h0 h2
      have : o = 0 ∨ o = 1 ∨ o = 2 := by omega
      rw [e]
      rcases this with rfl | rfl | rfl <;> simp [finB]
    · simp [finB, h2]
      intro h h3
      omega
  · simp [finB, h0]
    intro h h3
    omega
theorem formed_rows {os : List Int} {ls : List (List Int)} (hl : ls.length = os.length) (h1 : 1 ≤ os.length) (h8 : os.length ≤ 8) : formedB os ls = true ↔ ∀ i, i < os.length → rowB os.length i (os.getD i 0) (ls.getD i []) = true := by
  constructor
  · intro h i hi
    have e := formed_len h
    rw [rowB_st, e.2.1 i (by omega)]
    have := (wfB_iff.1 e.2.2).2.2 i (by rw [zip_len hl]; exact hi)
    rw [zip_len hl, zip_at hl hi] at this
    rw [this]; rfl
  · intro h
    have e2 : ∀ i, i < ls.length → (ls.getD i []).length = 8 := fun i hi => by
      have := h i (by omega)
      rw [rowB_st] at this
      simp at this
      simpa using this.1
    rw [(formed_mk hl e2).1, wfB_iff, zip_len hl]
    refine ⟨h1, h8, fun i hi => ?_⟩
    have := h i hi
    rw [rowB_st] at this
    rw [zip_at hl hi]
    simp only [Bool.and_eq_true] at this
    exact this.2

section
variable (a1 a2 : Option Addr) (l1 c1 l2 c2 : Nat) (os : List Int) (ls : List (List Int)) (w : World)

set_option maxHeartbeats 400000 in
theorem formed_bad (h1 : Ints w a1 l1 c1 os) (h2 : Lists w a2 l2 c2 ls) (h : l1 = 0 ∨ 8 < l1 ∨ l2 ≠ l1) : Calls Try.prog 71 #[.agg #[.slice a1 l1 c1, .slice a2 l2 c2]] w fun e w' => e = .returned (.bool (formedB os ls)) ∧ Below w.heap.size w w' := by
  have E : Hid (formedB os ls = false) := hid (formed_no fun e => by
    have e2 := formed_len e
    have e3 := wfB_iff.1 e2.2.2
    rw [zip_len e2.1, h1.hlen] at e3
    have := e2.1
    rw [h1.hlen, h2.hlen] at this
    omega)
  have m1 := h1.hmax
  have m3 := h1.hcap
  have m2 := h2.hmax
  have m4 := h2.hcap
  by_cases k1 : l1 = 0
  · subst k1
    go_enter Try.func71, Try.ntmps71
    go_wp2_with fail
    go_ret
    exact ⟨by rw [E.out]; rfl, (Below.refl _ _).alloc (Nat.le_refl _) _⟩
  have q1 : ((l1 : Int) == 0) = false := beq_eq_false_iff_ne.2 (by omega)
  by_cases k2 : 8 < l1
  · go_enter Try.func71, Try.ntmps71
    go_wp2_with fail
    go_ret
    exact ⟨by rw [E.out]; rfl, (Below.refl _ _).alloc (Nat.le_refl _) _⟩
  have k3 : ((l2 : Int) != (l1 : Int)) = true := bne_iff_ne.2 (by omega)
  go_enter Try.func71, Try.ntmps71
  go_wp2_with fail
  go_ret
  exact ⟨by rw [E.out]; rfl, (Below.refl _ _).alloc (Nat.le_refl _) _⟩

set_option maxHeartbeats 4000000 in
set_option maxRecDepth 100000 in
theorem formed_walk (h1 : Ints w a1 l1 c1 os) (h2 : Lists w a2 l1 c2 ls) (hp : 1 ≤ l1) (h8 : l1 ≤ 8) : Calls Try.prog 71 #[.agg #[.slice a1 l1 c1, .slice a2 l1 c2]] w fun e w' => e = .returned (.bool (formedB os ls)) ∧ Below w.heap.size w w' := by
  have m1 := h1.hmax
  have m3 := h1.hcap
  have m2 := h2.hmax
  have m4 := h2.hcap
  have L1 := h1.hlen
  have L2 := h2.hlen
  have q1 : ((l1 : Int) == 0) = false := beq_eq_false_iff_ne.2 (by omega)
  have HF := hid (formed_rows (os := os) (ls := ls) (by omega) (by omega) (by omega))
  rw [L1] at HF
  obtain ⟨b1, o1, rfl, hlt1, hc1⟩ := h1.hcell (by omega)
  obtain ⟨b2, o2, rfl, hlt2, hc2⟩ := h2.hcell (by omega)
  go_enter Try.func71, Try.ntmps71
  go_wp2_with fail
  go_loopw [4] (fun i wr => ∃ (j : Nat), j ≤ l1 ∧ i = .int .i64 j ∧ Below (w.heap.size + 1) (w.alloc (.cells #[.slice (some ⟨b1, o1, none⟩) l1 c1, .slice (some ⟨b2, o2, none⟩) l1 c2] 46)) wr ∧ Hid (∀ m, m < j → rowB l1 m (os.getD m 0) (ls.getD m []) = true)) (fun i _ => l1 - (intOf i).toNat)
  case atStart => exact ⟨0, Nat.zero_le _, rfl, Below.refl _ _, hid (fun m hm => by omega)⟩
  case round =>
    obtain ⟨j, hj, rfl, hb, HI⟩ := hrel
    have hbw : Below w.heap.size w wr := ((Below.refl _ _).alloc (Nat.le_refl _) _).trans (hb.mono (Nat.le_succ _))
    by_cases hlt : j < l1
    · obtain ⟨ra, rl, rc, cr, hr⟩ := hc2 j hlt
      have cr' := (hbw.cell (p := ⟨b2, o2 + j, none⟩) hlt2).trans cr
      have cO := (hbw.cell (p := ⟨b1, o1 + j, none⟩) hlt1).trans (hc1 j hlt)
      have p0 := (hb.cell (p := ⟨w.heap.size, 0, none⟩) (Nat.lt_succ_self _)).trans (World.cell?_alloc_new w _ _ 0)
      have p1 := (hb.cell (p := ⟨w.heap.size, 1, none⟩) (Nat.lt_succ_self _)).trans (World.cell?_alloc_new w _ _ 1)
      simp at p0 p1
      have rl' := hr.hlen
      have rcap := hr.hcap
      have rmax := hr.hmax
      have hc1' := hc1 j hlt
      have HB : Hid (rowB l1 j (os.getD j 0) (ls.getD j []) = (bsB (os.getD j 0) (ls.getD j []) && (ls.getD j []).all (rB l1 j (os.getD j 0)))) := hid rfl
      generalize hrow : ls.getD j [] = row at *
      generalize ho : os.getD j 0 = o at *
      have HRW := hid hrow
      have HOW := hid ho
      clear hrow ho
      have HO := hid (hc1' : w.cell? ⟨b1, o1 + j, none⟩ = some (.int .i64 o))
      clear hc1'
      cases hbs : bsB o row with
      | true =>
        have HBS := hid hbs
        unfold bsB at hbs
        simp only [Bool.and_eq_true, decide_eq_true_eq] at hbs
        obtain ⟨⟨e8, y0⟩, y2⟩ := hbs
        obtain rfl : rl = 8 := by omega
        have y0' : decide (0 ≤ o) = true := by simp; omega
        have y2' : decide (o ≤ 2) = true := by simp; omega
        go_wp2_with fail
        go_loopw [6, 5] (fun i s wr => ∃ (a : Nat), a ≤ 8 ∧ i = .int .i64 a ∧ s = .bool ((row.take a).all (rB l1 j o)) ∧ Below (w.heap.size + 1) (w.alloc (.cells #[.slice (some ⟨b1, o1, none⟩) l1 c1, .slice (some ⟨b2, o2, none⟩) l1 c2] 46)) wr) (fun i _ _ => 8 - (intOf i).toNat)
        case atStart => exact ⟨0, Nat.zero_le _, rfl, by simp, hb⟩
        case round =>
          obtain ⟨a, ha, rfl, rfl, hbq⟩ := hrel
          have hbqw : Below w.heap.size w wr := ((Below.refl _ _).alloc (Nat.le_refl _) _).trans (hbq.mono (Nat.le_succ _))
          have crq := (hbqw.cell (p := ⟨b2, o2 + j, none⟩) hlt2).trans cr
          have cOq := (hbqw.cell (p := ⟨b1, o1 + j, none⟩) hlt1).trans HO.out
          have p0 := (hbq.cell (p := ⟨w.heap.size, 0, none⟩) (Nat.lt_succ_self _)).trans (World.cell?_alloc_new w _ _ 0)
          have p1 := (hbq.cell (p := ⟨w.heap.size, 1, none⟩) (Nat.lt_succ_self _)).trans (World.cell?_alloc_new w _ _ 1)
          simp at p0 p1
          by_cases hla : a < 8
          · obtain ⟨b3, o3, rfl, hlt3, hc3⟩ := hr.hcell (by omega)
            have cx := (hbqw.cell (p := ⟨b3, o3 + a, none⟩) hlt3).trans (hc3 a hla)
            have HS : Hid ((row.take (a + 1)).all (rB l1 j o) = ((row.take a).all (rB l1 j o) && rB l1 j o (row.getD a 0))) := hid (by
              rw [List.take_succ_eq_append_getElem (show a < row.length by omega), List.all_append, List.all_cons, List.all_nil, Bool.and_true]
              simp [List.getD, List.getElem?_eq_getElem (show a < row.length by omega)])
            clear hc3
            generalize row.getD a 0 = x at *
            cases ecur : (row.take a).all (rB l1 j o) with
            | false =>
              have HC := hid ecur
              clear ecur
              go_wp2_with fail
              go_roundw
              case rel => exact ⟨a + 1, by omega, by go_num, by rw [HS.out, HC.out]; rfl, hbq⟩
              case measure => simp [intOf]; omega
            | true =>
              have HC := hid ecur
              clear ecur
              by_cases x1 : x < 0
              · have HR : Hid (rB l1 j o x = false) := hid (by simp [rB]; omega)
                have x1' : decide (0 ≤ x) = false := by simp; omega
                go_wp2_with fail
                go_roundw
                case rel => exact ⟨a + 1, by omega, by go_num, by rw [HS.out, HR.out, HC.out]; rfl, hbq⟩
                case measure => simp [intOf]; omega
              by_cases x2 : (l1 : Int) ≤ x
              · have HR : Hid (rB l1 j o x = false) := hid (by simp [rB]; omega)
                have x1' : decide (0 ≤ x) = true := by simp; omega
                have x2' : decide (x < (l1 : Int)) = false := by simp; omega
                go_wp2_with fail
                go_roundw
                case rel => exact ⟨a + 1, by omega, by go_num, by rw [HS.out, HR.out, HC.out]; rfl, hbq⟩
                case measure => simp [intOf]; omega
              have x1' : decide (0 ≤ x) = true := by simp; omega
              have x2' : decide (x < (l1 : Int)) = true := by simp; omega
              by_cases x3 : o = 0
              · have HR : Hid (rB l1 j o x = true) := hid (by simp [rB, x3]; omega)
                have x3' : (o == 0) = true := beq_iff_eq.2 x3
                clear x3
                go_wp2_with fail
                go_roundw
                case rel => exact ⟨a + 1, by omega, by go_num, by rw [HS.out, HR.out, HC.out]; rfl, hbq⟩
                case measure => simp [intOf]; omega
              have x3' : (o == 0) = false := beq_eq_false_iff_ne.2 x3
              by_cases x4 : x = (j : Int)
              · have HR : Hid (rB l1 j o x = true) := hid (by simp [rB, x3, x4]; omega)
                have x4' : (x == (j : Int)) = true := beq_iff_eq.2 x4
                clear x4 x3
                go_wp2_with fail
                go_roundw
                case rel => exact ⟨a + 1, by omega, by go_num, by rw [HS.out, HR.out, HC.out]; rfl, hbq⟩
                case measure => simp [intOf]; omega
              · have HR : Hid (rB l1 j o x = false) := hid (by simp [rB, x3, x4])
                have x4' : (x == (j : Int)) = false := beq_eq_false_iff_ne.2 x4
                clear x4 x3
                go_wp2_with fail
                go_roundw
                case rel => exact ⟨a + 1, by omega, by go_num, by rw [HS.out, HR.out, HC.out]; rfl, hbq⟩
                case measure => simp [intOf]; omega
          · obtain rfl : a = 8 := by omega
            rw [List.take_of_length_le (by omega)]
            cases eall : row.all (rB l1 j o) with
            | true =>
              have HA : Hid (rowB l1 j o row = true) := hid (by rw [HB.out, HBS.out, eall]; rfl)
              clear eall
              go_wp2_with fail
              go_roundw
              case rel =>
                refine ⟨j + 1, by omega, by go_num, hbq, hid (fun m hm => ?_)⟩
                by_cases e : m < j
                · exact HI.out m e
                · rw [show m = j by omega, HRW.out, HOW.out]; exact HA.out
              case measure => simp [intOf]; omega
            | false =>
              have HN : Hid (formedB os ls = false) := hid (formed_no fun e => by
                have := HF.out.1 e j hlt
                rw [HRW.out, HOW.out, HB.out, HBS.out, eall] at this
                cases this)
              clear eall
              go_wp2_with fail
              go_ret
              exact ⟨by rw [HN.out]; rfl, hbqw⟩
      | false =>
        have HN : Hid (formedB os ls = false) := hid (formed_no fun e => by
          have := HF.out.1 e j hlt
          rw [HRW.out, HOW.out, HB.out, hbs] at this
          cases this)
        unfold bsB at hbs
        by_cases e8 : rl = 8
        · subst e8
          have r8 : decide (row.length = 8) = true := by simp; omega
          rw [r8, Bool.true_and] at hbs
          by_cases y0 : 0 ≤ o
          · have y0' : decide (0 ≤ o) = true := by simp; omega
            rw [y0', Bool.true_and] at hbs
            have y2' := hbs
            have y2 : ¬ o ≤ 2 := by simpa using hbs
            clear hbs
            go_wp2_with fail
            go_loopw [6, 5] (fun i s wr => ∃ (a : Nat), a ≤ 8 ∧ i = .int .i64 a ∧ s = .bool false ∧ Below (w.heap.size + 1) (w.alloc (.cells #[.slice (some ⟨b1, o1, none⟩) l1 c1, .slice (some ⟨b2, o2, none⟩) l1 c2] 46)) wr) (fun i _ _ => 8 - (intOf i).toNat)
            case atStart => exact ⟨0, Nat.zero_le _, rfl, rfl, hb⟩
            case round =>
              obtain ⟨a, ha, rfl, rfl, hbq⟩ := hrel
              have hbqw : Below w.heap.size w wr := ((Below.refl _ _).alloc (Nat.le_refl _) _).trans (hbq.mono (Nat.le_succ _))
              have crq := (hbqw.cell (p := ⟨b2, o2 + j, none⟩) hlt2).trans cr
              have p0 := (hbq.cell (p := ⟨w.heap.size, 0, none⟩) (Nat.lt_succ_self _)).trans (World.cell?_alloc_new w _ _ 0)
              have p1 := (hbq.cell (p := ⟨w.heap.size, 1, none⟩) (Nat.lt_succ_self _)).trans (World.cell?_alloc_new w _ _ 1)
              simp at p0 p1
              by_cases hla : a < 8
              · obtain ⟨b3, o3, rfl, hlt3, hc3⟩ := hr.hcell (by omega)
                have cx := (hbqw.cell (p := ⟨b3, o3 + a, none⟩) hlt3).trans (hc3 a hla)
                clear hc3 hc1 hc2
                generalize row.getD a 0 = x at *
                go_wp2_with fail
                go_roundw
                case rel => exact ⟨a + 1, by omega, by go_num, rfl, hbq⟩
                case measure => simp [intOf]; omega
              · go_wp2_with fail
                go_ret
                exact ⟨by rw [HN.out]; rfl, hbqw⟩
          · have y0' : decide (0 ≤ o) = false := by simp; omega
            clear hbs
            go_wp2_with fail
            go_loopw [6, 5] (fun i s wr => ∃ (a : Nat), a ≤ 8 ∧ i = .int .i64 a ∧ s = .bool false ∧ Below (w.heap.size + 1) (w.alloc (.cells #[.slice (some ⟨b1, o1, none⟩) l1 c1, .slice (some ⟨b2, o2, none⟩) l1 c2] 46)) wr) (fun i _ _ => 8 - (intOf i).toNat)
            case atStart => exact ⟨0, Nat.zero_le _, rfl, rfl, hb⟩
            case round =>
              obtain ⟨a, ha, rfl, rfl, hbq⟩ := hrel
              have hbqw : Below w.heap.size w wr := ((Below.refl _ _).alloc (Nat.le_refl _) _).trans (hbq.mono (Nat.le_succ _))
              have crq := (hbqw.cell (p := ⟨b2, o2 + j, none⟩) hlt2).trans cr
              have p0 := (hbq.cell (p := ⟨w.heap.size, 0, none⟩) (Nat.lt_succ_self _)).trans (World.cell?_alloc_new w _ _ 0)
              have p1 := (hbq.cell (p := ⟨w.heap.size, 1, none⟩) (Nat.lt_succ_self _)).trans (World.cell?_alloc_new w _ _ 1)
              simp at p0 p1
              by_cases hla : a < 8
              · obtain ⟨b3, o3, rfl, hlt3, hc3⟩ := hr.hcell (by omega)
                have cx := (hbqw.cell (p := ⟨b3, o3 + a, none⟩) hlt3).trans (hc3 a hla)
                clear hc3 hc1 hc2
                generalize row.getD a 0 = x at *
                go_wp2_with fail
                go_roundw
                case rel => exact ⟨a + 1, by omega, by go_num, rfl, hbq⟩
                case measure => simp [intOf]; omega
              · go_wp2_with fail
                go_ret
                exact ⟨by rw [HN.out]; rfl, hbqw⟩
        · have e8' : ((rl : Int) == 8) = false := beq_eq_false_iff_ne.2 (by omega)
          clear hbs
          go_wp2_with fail
          go_loopw [6, 5] (fun i s wr => ∃ (a : Nat), a ≤ rl ∧ i = .int .i64 a ∧ s = .bool false ∧ Below (w.heap.size + 1) (w.alloc (.cells #[.slice (some ⟨b1, o1, none⟩) l1 c1, .slice (some ⟨b2, o2, none⟩) l1 c2] 46)) wr) (fun i _ _ => rl - (intOf i).toNat)
          case atStart => exact ⟨0, Nat.zero_le _, rfl, rfl, hb⟩
          case round =>
            obtain ⟨a, ha, rfl, rfl, hbq⟩ := hrel
            have hbqw : Below w.heap.size w wr := ((Below.refl _ _).alloc (Nat.le_refl _) _).trans (hbq.mono (Nat.le_succ _))
            have crq := (hbqw.cell (p := ⟨b2, o2 + j, none⟩) hlt2).trans cr
            have p0 := (hbq.cell (p := ⟨w.heap.size, 0, none⟩) (Nat.lt_succ_self _)).trans (World.cell?_alloc_new w _ _ 0)
            have p1 := (hbq.cell (p := ⟨w.heap.size, 1, none⟩) (Nat.lt_succ_self _)).trans (World.cell?_alloc_new w _ _ 1)
            simp at p0 p1
            by_cases hla : a < rl
            · obtain ⟨b3, o3, rfl, hlt3, hc3⟩ := hr.hcell (by omega)
              have cx := (hbqw.cell (p := ⟨b3, o3 + a, none⟩) hlt3).trans (hc3 a hla)
              clear hc3 hc1 hc2
              generalize row.getD a 0 = x at *
              go_wp2_with fail
              go_roundw
              case rel => exact ⟨a + 1, by omega, by go_num, rfl, hbq⟩
              case measure => simp [intOf]; omega
            · go_wp2_with fail
              go_ret
              exact ⟨by rw [HN.out]; rfl, hbqw⟩
    · have HT : Hid (formedB os ls = true) := hid (HF.out.2 fun i hi => HI.out i (by omega))
      go_wp2_with fail
      go_ret
      exact ⟨by rw [HT.out]; rfl, hbw⟩
end

end Go.Proofs.Ytjagijohfkffiaa
