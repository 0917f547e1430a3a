import Derived.Test.YtjagijohfkffiabFOUM25

/- The walk of verdictkeep's path, where a path is shown. -/
namespace Go.Proofs.Ytjagijohfkffiab
open Go.RowKit
set_option linter.unusedVariables false

section
variable (a1 a2 a3 a4 a5 : Option Addr) (l1 c1 l2 c2 l3 c3 l4 c4 l5 c5 : Nat) (ns : List Nd) (zs : List Int) (zss : List (List Int)) (ss : List Int) (SA SB : List Nat) (w : World)

set_option maxHeartbeats 8000000 in
set_option maxRecDepth 100000 in
theorem kpath_any (h1 : Ints w a1 l1 c1 zs) (h2 : Lists w a2 l2 c2 zss) (h3 : Ints w a3 l3 c3 ss) (h4 : Ints w a4 l4 c4 (intsOf SA)) (h5 : Ints w a5 l5 c5 (intsOf SB)) (hG : graphB zs zss ss = true)
    (hS : ShowsP ns zs.length (gLt zs) (gEd zss) (gSt ss) SA SB) :
    Calls Try.prog 27 #[.agg #[.slice a1 l1 c1, .slice a2 l2 c2, .slice a3 l3 c3], .slice a4 l4 c4, .slice a5 l5 c5] w fun e w' => e = .returned (.bool true) ∧ Below w.heap.size w w' := by
  have ba := (Below.refl w.heap.size w).alloc (Nat.le_refl _) (.cells #[.slice a1 l1 c1, .slice a2 l2 c2, .slice a3 l3 c3] 46)
  have T0 := hid (three_new w (.slice a1 l1 c1) (.slice a2 l2 c2) (.slice a3 l3 c3) 46)
  have L1 := h1.hlen
  have L2 := h2.hlen
  have L3 := h3.hlen
  have L4 : SA.length = l4 := by rw [← intsOf_len]; exact h4.hlen
  have L5 : SB.length = l5 := by rw [← intsOf_len]; exact h5.hlen
  obtain ⟨g1, g6, g21, gal, g3, gnu⟩ : 1 ≤ l1 ∧ l1 ≤ 6 ∧ l1 = l2 ∧ allL zs = true ∧ l3 ≠ 0 ∧ numB l1 ss = true := by
    have h9 := hG
    unfold graphB at h9
    rw [L1, L2, L3] at h9
    simp only [Bool.and_eq_true, decide_eq_true_eq] at h9
    exact ⟨h9.1.1.1.1.1.1, h9.1.1.1.1.1.2, h9.1.1.1.1.2.symm, h9.1.1.1.2, h9.1.1.2, h9.1.2⟩
  subst g21
  have HLL := hid L1
  have q1 : 0 < l5 := by have := show_pos hS; omega
  have q2 : l4 + l5 ≤ 20000 := by have := hS.len; omega
  have m1 := h1.hcap
  have m2 := h1.hmax
  have n1 := h2.hcap
  have n2 := h2.hmax
  have o1 := h3.hcap
  have o2 := h3.hmax
  have p4 := h4.hcap
  have p4' := h4.hmax
  have p5 := h5.hcap
  have p5' := h5.hmax
  have J2 := hid (h2.below ba)
  have J3 := hid (h3.below ba)
  have J5 := hid (h5.below ba)
  have JO := hid (joined_any a4 a5 l4 c4 l5 c5 SA SB _ (h4.below ba) (h5.below ba) (by omega) (by omega))
  unfold Made at JO
  have HB0 := hid ba
  obtain ⟨j0, hj0, hjs⟩ := show_start hS
  have HJ0 := hid hjs
  rw [L3] at hj0
  have HLT := hid (fun i (hi : i < (SA ++ SB).length) => show_lt hS i hi)
  have HED := hid (fun i (hi : i < (SA ++ SB).length) => show_edge hS i hi)
  have hAB : (SA ++ SB).length = l4 + l5 := by rw [List.length_append, L4, L5]
  rw [hAB] at JO
  have HABL := hid hAB
  have HYL := hid (fun y (hy : y ∈ SA ++ SB) => hS.lt_ y hy)
  have HBN : Hid (SB.headD 0 ∈ SA ++ SB) := hid (by
    refine List.mem_append_right _ ?_
    have := show_pos hS
    cases SB with
    | nil => simp at this
    | cons b l => simp)
  clear h1 h2 h3 h4 h5 ba L1 L2 L3 L4 L5 gal gnu hG hS hjs hAB
  go_enter Try.func27, Try.ntmps27
  go_wp2_with fail
  refine JO.out.mono ?_
  rintro e w5 ⟨ao, cap, rfl, hI, b5⟩
  clear JO
  obtain ⟨gP, oP, rfl, hgP, hcP⟩ := hI.hcell (by omega)
  have cm := hI.hcap
  have cm' := hI.hmax
  have HCP := hid (fun i (hi : i < l4 + l5) => (by
    have h9 := hcP i hi
    have h8 : (intsOf (SA ++ SB)).getD i 0 = (((SA ++ SB).getD i 0 : Nat) : Int) := by
      have hl9 : i < (SA ++ SB).length := by rw [HABL.out]; exact hi
      unfold intsOf
      rw [List.getD, List.getD, List.getElem?_map, List.getElem?_eq_getElem hl9]
      rfl
    rw [h8] at h9
    exact h9 : w5.cell? ⟨gP, oP + i, none⟩ = some (.int .i64 (((SA ++ SB).getD i 0 : Nat) : Int))))
  have T5 := T0.out.below b5 (by simp)
  have z0 := T5.c0
  have z1 := T5.c1
  have z2 := T5.c2
  have hG4 : w.heap.size < w5.heap.size := T5.lt
  have K24 := hid (J2.out.below b5)
  have K34 := hid (J3.out.below b5)
  have K54 := hid (J5.out.below b5)
  have HBA := hid (HB0.out.trans (b5.mono HB0.out.size))
  have e5 : ((l5 : Int) == 0) = false := beq_eq_false_iff_ne.2 (by omega)
  have e6 : decide ((20000 : Int) < (l4 : Int) + (l5 : Int)) = false := by simp; omega
  clear hI hcP T5 T0 b5 J2 J3 J5 HB0
  go_wp2_with fail
  have P0 := HCP.out 0 (by omega)
  rw [Nat.add_zero] at P0
  obtain ⟨bS, oS, eS, hbS, hcS⟩ := K34.out.hcell (by omega)
  subst eS
  have HCS := hid hcS
  clear hcS
  go_loopw [8, 9] (fun b i wq => ∃ (k : Nat) (bv : Bool), k ≤ l3 ∧ i = .int .i64 k ∧ b = .bool bv ∧ Hid (Below w5.heap.size w5 wq) ∧ Hid (j0 < k → bv = true)) (fun _ i _ => l3 - (intOf i).toNat)
  case atStart => exact ⟨0, false, Nat.zero_le _, rfl, rfl, hid (Below.refl _ _), hid (fun h => by omega)⟩
  case round =>
    obtain ⟨k, bv, hk, rfl, rfl, HB, HK⟩ := hrel
    rename World => W0
    have z2' := (HB.out.cell (p := ⟨w.heap.size, 2, none⟩) hG4).trans z2
    have P0' := (HB.out.cell (p := ⟨gP, oP, none⟩) hgP).trans P0
    by_cases hlk : k < l3
    · have ck := (HB.out.cell (p := ⟨bS, oS + k, none⟩) hbS).trans (HCS.out k hlk)
      have HJK : Hid (j0 = k → ss.getD k 0 = (((SA ++ SB).getD 0 0 : Nat) : Int)) := hid (fun e => by rw [← e]; exact HJ0.out)
      have i1 : (0 : Int) ≤ (k : Int) := by omega
      have i2 : (k : Int) < (l3 : Int) := by omega
      have i3 : (0 : Int) < (l4 : Int) + (l5 : Int) := by omega
      generalize ss.getD k 0 = z at *
      cases bv with
      | true =>
        go_wp2_with fail
        go_quiet (fail)
        have HB2 := hid (below_drewN HB.out nq)
        go_wp2_with fail
        go_roundw
        case rel => exact ⟨k + 1, true, by omega, by go_num, rfl, HB2, hid (fun _ => rfl)⟩
        case measure => simp [intOf]; omega
      | false =>
        generalize (SA ++ SB).getD 0 0 = v0 at *
        have HKK : Hid (j0 < k + 1 → (z == (v0 : Int)) = true) := hid (fun h => by
          by_cases e : j0 = k
          · rw [HJK.out e]; simp
          · exact absurd (HK.out (by omega)) (by simp))
        go_wp2_with fail
        go_quiet (fail)
        have HB2 := hid (below_drewN HB.out nq)
        go_wp2_with fail
        go_roundw
        case rel => exact ⟨k + 1, (z == (v0 : Int)), by omega, by go_num, rfl, HB2, HKK⟩
        case measure => simp [intOf]; omega
    · obtain rfl : l3 = k := by omega
      obtain rfl : bv = true := HK.out hj0
      have x0 := (HB.out.cell (p := ⟨w.heap.size, 0, none⟩) hG4).trans z0
      have x1 := (HB.out.cell (p := ⟨w.heap.size, 1, none⟩) hG4).trans z1
      have x2 := (HB.out.cell (p := ⟨w.heap.size, 2, none⟩) hG4).trans z2
      have hs0 := HB.out.size
      have hG5 : w.heap.size < W0.heap.size := by omega
      have hgP5 : gP < W0.heap.size := by omega
      have M2 := hid (K24.out.below HB.out)
      have HPC := hid (fun i (hi : i < l4 + l5) => (HB.out.cell (p := ⟨gP, oP + i, none⟩) hgP).trans (HCP.out i hi))
      obtain ⟨bB, oB, eB, hbB, hcB⟩ := K54.out.hcell q1
      subst eB
      have cB := (HB.out.cell (p := ⟨bB, oB + 0, none⟩) hbB).trans (hcB 0 q1)
      rw [Nat.add_zero, show (intsOf SB).getD 0 0 = ((SB.headD 0 : Nat) : Int) by
        cases SB with
        | nil => rfl
        | cons y ys => rfl] at cB
      have hbB5 : bB < W0.heap.size := by omega
      have HB5 := hid (HBA.out.trans (HB.out.mono (by omega)))
      clear hcB K24 K34 K54 HCS HCP HBA HK HB z0 z1 z2 z2' P0 P0' HJ0 hlk hk hj0
      generalize hGG : w.heap.size = G at *
      go_wp2_with fail
      go_loopw [10] (fun i wq => ∃ k : Nat, k ≤ l4 + l5 ∧ i = .int .i64 k ∧ Hid (Below W0.heap.size W0 wq)) (fun i _ => l4 + l5 - (intOf i).toNat)
      case atStart => exact ⟨0, Nat.zero_le _, rfl, hid (Below.refl _ _)⟩
      case round =>
        obtain ⟨k, hk, rfl, HB⟩ := hrel
        rename World => W1
        have hs1 := HB.out.size
        by_cases hlk : k < l4 + l5
        · have x0' := (HB.out.cell (p := ⟨G, 0, none⟩) hG5).trans x0
          have x1' := (HB.out.cell (p := ⟨G, 1, none⟩) hG5).trans x1
          have x2' := (HB.out.cell (p := ⟨G, 2, none⟩) hG5).trans x2
          have cB' := (HB.out.cell (p := ⟨bB, oB, none⟩) hbB5).trans cB
          have ck := (HB.out.cell (p := ⟨gP, oP + k, none⟩) hgP5).trans (HPC.out k hlk)
          have hlA : k < (SA ++ SB).length := by rw [HABL.out]; exact hlk
          have hx := HLT.out k hlA
          rw [HLL.out] at hx
          have hE := HED.out k hlA
          rw [HABL.out] at hE
          have HCK2 : Hid (k + 1 < l4 + l5 → W1.cell? ⟨gP, oP + (k + 1), none⟩ = some (.int .i64 (((SA ++ SB).getD (k + 1) 0 : Nat) : Int)) ∧ (SA ++ SB).getD (k + 1) 0 < l1) := hid (fun h => ⟨(HB.out.cell (p := ⟨gP, oP + (k + 1), none⟩) hgP5).trans (HPC.out (k + 1) h), by have := HLT.out (k + 1) (by rw [HABL.out]; exact h); rw [HLL.out] at this; exact this⟩)
          have HYB : Hid (SB.headD 0 < l1) := hid (by have := HYL.out _ HBN.out; rw [HLL.out] at this; exact this)
          generalize hxx : (SA ++ SB).getD k 0 = x at *
          have HXX := hid hxx
          clear hxx
          have i1 : (0 : Int) ≤ (k : Int) := by omega
          have i2 : (k : Int) < (l4 : Int) + (l5 : Int) := by omega
          have i3 : (0 : Int) < (l5 : Int) := by omega
          have i4 : decide ((x : Int) < 0) = false := by simp
          have i5 : decide ((l1 : Int) ≤ (x : Int)) = false := by simp; omega
          by_cases hn : k + 1 < l4 + l5
          · rw [if_pos hn] at hE
            obtain ⟨ck2, hy⟩ := HCK2.out hn
            generalize (SA ++ SB).getD (k + 1) 0 = y at *
            have j1 : (0 : Int) ≤ (k : Int) + 1 := by omega
            have j2 : (k : Int) + 1 < (l4 : Int) + (l5 : Int) := by omega
            have i6 : decide ((y : Int) < 0) = false := by simp
            have i7 : decide ((l1 : Int) ≤ (y : Int)) = false := by simp; omega
            go_wp2_with fail
            go_quiet (fail)
            have HB6 := hid (below_drewN HB.out nq)
            clear x0' x1' x2' cB' ck HB
            generalize W1.drewN nq = W2 at *
            have hs2 := HB6.out.size
            have x0' := (HB6.out.cell (p := ⟨G, 0, none⟩) hG5).trans x0
            have x1' := (HB6.out.cell (p := ⟨G, 1, none⟩) hG5).trans x1
            have x2' := (HB6.out.cell (p := ⟨G, 2, none⟩) hG5).trans x2
            have ck := (HB6.out.cell (p := ⟨gP, oP + k, none⟩) hgP5).trans (HPC.out k hlk)
            rw [show (SA ++ SB).getD k 0 = x from HXX.out] at ck
            have RE := hid (kedge_any a1 a2 (some ⟨bS, oS, none⟩) l1 c1 l1 c2 l3 c3 zss W2.drew x y (M2.out.below (below_drew1 HB6.out)) hx)
            rw [hE] at RE
            go_wp2_with fail
            go_region_with (go_at_call 57; go_must (refine RE.out.mono ?_; rintro e w7 ⟨rfl, b7⟩))
            all_goals
              have HB7 := hid (HB6.out.trans ((below_undrew b7).mono hs2))
              clear b7 x0' x1' x2' ck HB6
              go_wp2_with fail
              go_roundw
              case rel => exact ⟨k + 1, by omega, by go_num, HB7⟩
              case measure => simp [intOf]; omega
          · rw [if_neg hn] at hE
            have hy := HYB.out
            generalize SB.headD 0 = y at *
            have j2 : decide ((k : Int) + 1 < (l4 : Int) + (l5 : Int)) = false := by simp; omega
            have i6 : decide ((y : Int) < 0) = false := by simp
            have i7 : decide ((l1 : Int) ≤ (y : Int)) = false := by simp; omega
            go_wp2_with fail
            go_quiet (fail)
            have HB6 := hid (below_drewN HB.out nq)
            clear x0' x1' x2' cB' ck HB
            generalize W1.drewN nq = W2 at *
            have hs2 := HB6.out.size
            have x0' := (HB6.out.cell (p := ⟨G, 0, none⟩) hG5).trans x0
            have x1' := (HB6.out.cell (p := ⟨G, 1, none⟩) hG5).trans x1
            have x2' := (HB6.out.cell (p := ⟨G, 2, none⟩) hG5).trans x2
            have ck := (HB6.out.cell (p := ⟨gP, oP + k, none⟩) hgP5).trans (HPC.out k hlk)
            rw [show (SA ++ SB).getD k 0 = x from HXX.out] at ck
            have RE := hid (kedge_any a1 a2 (some ⟨bS, oS, none⟩) l1 c1 l1 c2 l3 c3 zss W2.drew x y (M2.out.below (below_drew1 HB6.out)) hx)
            rw [hE] at RE
            go_wp2_with fail
            go_region_with (go_at_call 57; go_must (refine RE.out.mono ?_; rintro e w7 ⟨rfl, b7⟩))
            all_goals
              have HB7 := hid (HB6.out.trans ((below_undrew b7).mono hs2))
              clear b7 x0' x1' x2' ck HB6
              go_wp2_with fail
              go_roundw
              case rel => exact ⟨k + 1, by omega, by go_num, HB7⟩
              case measure => simp [intOf]; omega
        · obtain rfl : k = l4 + l5 := by omega
          have HBW := hid (HB5.out.trans (HB.out.mono (by omega)))
          clear HB
          go_wp2_with fail
          go_ret
          exact ⟨rfl, by rw [hGG]; exact HBW.out⟩

end
end Go.Proofs.Ytjagijohfkffiab
