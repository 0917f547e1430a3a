import Derived.Test.YtjagijohfkffiabFOUM25
import Derived.Test.YtjagijohfkffiabFOUM33
import Derived.Laws.OwnMore

/- The walk of verdictkeep's walked: a path of a graph. (By gen_kwalked.py.) -/
namespace Go.Proofs.Ytjagijohfkffiab
open Go.RowKit
set_option linter.unusedVariables false

/-- What 'walked' hands back: a stem and a loop of a path. -/
def WalkedP (n : Nat) (ed : Nat → Nat → Bool) (st : Nat → Bool) (w : World) (e : Ending) (w' : World) : Prop := ∃ (a1 : Option Addr) (c1 : Nat) (a2 : Option Addr) (c2 : Nat) (SA SB : List Nat),
  e = .returned (.tuple #[.slice a1 SA.length c1, .slice a2 SB.length c2]) ∧ Ints w' a1 SA.length c1 (intsOf SA) ∧ Ints w' a2 SB.length c2 (intsOf SB) ∧ SA.length ≤ 40 ∧ SB.length ≤ 40 ∧
  SB ≠ [] ∧ (∀ p ∈ SA ++ SB, p < n) ∧ st ((SA ++ SB).headD 0) = true ∧ Goes (fun a b => ed a b = true) (SA ++ SB) (SB.headD 0) ∧ Below w.heap.size w w'

theorem walked_done {n : Nat} {ed : Nat → Nat → Bool} {st : Nat → Bool} {w W : World} {S : List Nat} {i j y g o cap : Nat} (h : KWkI n ed st S) (hl : S.length = i + 1) (hi : i + 1 < 40) (he : ed (S.getD i 0) y = true) (hj : j < i + 1) (hy : S.getD j 0 = y) (hI : Ints W (some ⟨g, o, none⟩) (i + 1) cap (intsOf S)) (bb : Below w.heap.size w W) :
    WalkedP n ed st w (.returned (.tuple #[.slice (some ⟨g, o, none⟩) j cap, .slice (some ⟨g, o + j, none⟩) (i + 1 - j) (cap - j)])) W := by
  obtain ⟨k1, k2, k3, k4⟩ := walk_ends h hl he hj hy
  have l1 : (S.take j).length = j := by simp; omega
  have l2 : (S.drop j).length = i + 1 - j := by simp; omega
  have I1 := ints_take hI (n := j) (by omega)
  have I2 := ints_drop hI (n := j) (by omega)
  refine ⟨some ⟨g, o, none⟩, cap, some ⟨g, o + j, none⟩, cap - j, S.take j, S.drop j, by rw [l1, l2], ?_, ?_, by omega, by omega, k1, k2, k3, k4, bb⟩
  · rw [l1]
    have e : intsOf (S.take j) = (intsOf S).take j := by simp [intsOf]
    rw [e]; exact I1
  · rw [l2]
    have e : intsOf (S.drop j) = (intsOf S).drop j := by simp [intsOf]
    rw [e]; exact I2

theorem getD_in {row : List Int} {m : Nat} (hm : m < row.length) : row.getD m 0 ∈ row := by rw [List.getD, List.getElem?_eq_getElem hm]; exact List.getElem_mem _

section
variable (a1 a2 a3 a4 : Option Addr) (l1 c1 l2 c2 l3 c3 l4 c4 : Nat) (zs : List Int) (zss : List (List Int)) (ss ys : List Int) (w : World)

set_option maxHeartbeats 8000000 in
set_option maxRecDepth 100000 in
theorem walked_any (h2 : Lists w a2 l2 c2 zss) (h3 : Ints w a3 l3 c3 ss) (h4 : Ints w a4 l4 c4 ys) (hf : Fits ys) (hl4 : l4 ≤ 20) (hzl : zs.length = l1) (hG : graphB zs zss ss = true) :
    Calls Try.prog 29 #[.agg #[.slice a1 l1 c1, .slice a2 l2 c2, .slice a3 l3 c3], .slice a4 l4 c4] w (WalkedP zs.length (gEd zss) (gSt ss) w) := by
  have ba := (Below.refl w.heap.size w).alloc (Nat.le_refl _) (.cells #[.slice a1 l1 c1, .slice a2 l2 c2, .slice a3 l3 c3] 46)
  have T0 := hid (three_new w (.slice a1 l1 c1) (.slice a2 l2 c2) (.slice a3 l3 c3) 46)
  have L2 := h2.hlen
  have L3 := h3.hlen
  have L4 := h4.hlen
  obtain ⟨g1, g6, g21, g3, gnu, grw⟩ : 1 ≤ l1 ∧ l1 ≤ 6 ∧ l1 = l2 ∧ l3 ≠ 0 ∧ numB l1 ss = true ∧ rowsB l1 zss l1 = true := by
    have h9 := hG
    unfold graphB at h9
    rw [hzl, L2, L3] at h9
    simp only [Bool.and_eq_true, decide_eq_true_eq] at h9
    exact ⟨h9.1.1.1.1.1.1, h9.1.1.1.1.1.2, h9.1.1.1.1.2.symm, h9.1.1.2, h9.1.2, h9.2⟩
  subst g21
  rw [hzl]
  have n1 := h2.hcap
  have n2 := h2.hmax
  have o1 := h3.hcap
  have o2 := h3.hmax
  have p4 := h4.hcap
  have p4' := h4.hmax
  have J2 := hid (h2.below ba)
  have J3 := hid (h3.below ba)
  have J4 := hid (h4.below ba)
  have HB0 := hid ba
  have HF := hid (fun j (hj : j < l4) => fits_at hf (j := j) (by rw [L4]; exact hj))
  have HSS := hid (fun j (hj : j < l3) => (by
    have hjl : j < ss.length := by rw [L3]; exact hj
    have hm : ss.getD j 0 ∈ ss := by rw [List.getD, List.getElem?_eq_getElem hjl]; exact List.getElem_mem _
    obtain ⟨k1, k2⟩ := numB_iff.1 gnu _ hm
    exact ⟨(ss.getD j 0).toNat, by omega, by omega, inB_iff.2 (by rw [Int.toNat_of_nonneg k1]; exact hm)⟩ : ∃ x : Nat, ss.getD j 0 = (x : Int) ∧ x < l1 ∧ gSt ss x = true))
  have HRR := hid (fun x (hx : x < l1) => (by
    have h9 := grw
    unfold rowsB at h9
    rw [List.all_eq_true] at h9
    refine ⟨fun h0 => ?_, fun m hm => ?_⟩
    · unfold gEd outZ
      rw [if_pos h0]
      simp [inB]
    · have hmm : (zss.getD x []).getD m 0 ∈ zss.getD x [] := getD_in hm
      obtain ⟨k1, k2⟩ := numB_iff.1 (h9 x (by simpa using hx)) _ hmm
      refine ⟨((zss.getD x []).getD m 0).toNat, by omega, by omega, ?_⟩
      unfold gEd outZ
      rw [if_neg (by omega)]
      exact inB_iff.2 (by rw [Int.toNat_of_nonneg k1]; exact hmm) : ((zss.getD x []).length = 0 → gEd zss x x = true) ∧ ∀ m, m < (zss.getD x []).length → ∃ y : Nat, (zss.getD x []).getD m 0 = (y : Int) ∧ y < l1 ∧ gEd zss x y = true))
  have HZL := hid hzl
  clear h2 h3 h4 ba L2 L3 L4 hf hG gnu grw hzl
  obtain ⟨i0, hi, hz0, hz1, hz2⟩ := info_parts Try.infoInt
  obtain ⟨bS, oS, eS, hbS, hcS⟩ := J3.out.hcell (by omega)
  subst eS
  obtain ⟨bN, oN, eN, hbN, hcN⟩ := J2.out.hcell (by omega)
  subst eN
  have HCS := hid hcS
  have HCN := hid hcN
  have xf0 := T0.out.c0
  have x1 := T0.out.c1
  have x2 := T0.out.c2
  have hGl : w.heap.size < (w.alloc (.cells #[.slice a1 l1 c1, .slice (some ⟨bN, oN, none⟩) l1 c2, .slice (some ⟨bS, oS, none⟩) l3 c3] 46)).heap.size := by simp
  clear hcS hcN J2 J3
  by_cases h40 : l4 = 0
  · subst h40
    obtain ⟨x0, ex0, hx0, hst⟩ := HSS.out 0 (by omega)
    have cs0 := HCS.out 0 (by omega)
    rw [ex0, Nat.add_zero] at cs0
    have z4 : ((0 : Nat) : Int) = 0 := rfl
    have s0 : (0 : Int) < (l3 : Int) := by omega
    clear z4
    go_enter Try.func29, Try.ntmps29
    go_wp2_with fail
    have HWS : Hid ((w.alloc (.cells #[.slice a1 l1 c1, .slice (some ⟨bN, oN, none⟩) l1 c2, .slice (some ⟨bS, oS, none⟩) l3 c3] 46)).heap.size = w.heap.size + 1) := hid (by simp)
    generalize hW : (w.alloc (.cells #[.slice a1 l1 c1, .slice (some ⟨bN, oN, none⟩) l1 c2, .slice (some ⟨bS, oS, none⟩) l3 c3] 46)) = W0 at *
    clear hW
    have hGm : w.heap.size ≤ W0.heap.size := by omega
    have O0 : Hid ((W0.alloc (.cells #[.int .i64 (x0 : Nat)] 3)).ownsRow W0.heap.size 3 1 (.slice (some ⟨W0.heap.size, 0, none⟩) 1 1) 1 (natInts [x0])) := hid (World.ownsRow_lit W0 #[.int .i64 (x0 : Nat)] 1 (Nat.le_refl _) (by unfold maxLen; omega) rfl)
    have BA := hid ((Below.refl W0.heap.size W0).alloc (Nat.le_refl _) (.cells #[.int .i64 (x0 : Nat)] 3))
    have HW1 := hid (walk_one (n := l1) (ed := gEd zss) (st := gSt ss) hx0 hst)
    have HN1 : Hid ((([x0] : List Nat).drop (max 0 1)).Nodup) := hid (by rw [List.drop_eq_nil_of_le (by simp <;> omega)]; exact List.nodup_nil)
    go_wp2_with fail
    go_loopw [7, 8] (fun v ii wq => ∃ (i : Nat) (vL : Value) (S : List Nat), i + 1 ≤ 40 ∧ vL = v ∧ ii = .int .i64 ((i + 1 : Nat) : Int) ∧ Hid (S.length = i + 1) ∧ Hid (KWkI l1 (gEd zss) (gSt ss) S) ∧ Hid ((S.drop (max 0 1)).Nodup) ∧ Hid (wq.ownsRow W0.heap.size 3 1 vL (i + 1) (natInts S)) ∧ Hid (Below W0.heap.size W0 wq)) (fun _ ii _ => 40 - (intOf ii).toNat)
    case atStart => exact ⟨0, _, [x0], by omega, rfl, rfl, hid rfl, HW1, HN1, hid (by rw [← HWS.out]; exact O0.out), BA⟩
    case round =>
      clear O0 BA HW1 HN1
      obtain ⟨i, vL, S, hi40, rfl, rfl, HL, HWI, HD, HO, HB⟩ := hrel
      rename World => W1
      have hs1 := HB.out.size
      obtain ⟨ao, cap, rfl, hI⟩ := own_ints HO.out HL.out
      obtain ⟨gL, oL, rfl, hgL, hcL⟩ := hI.hcell (by omega)
      have hcap := hI.hcap
      have hcmx := hI.hmax
      have HI := hid hI
      have HCL := hid (fun m (hm : m < i + 1) => (by
        have h9 := hcL m hm
        rw [show (intsOf S).getD m 0 = ((S.getD m 0 : Nat) : Int) by
          unfold intsOf
          rw [List.getD, List.getD, List.getElem?_map, List.getElem?_eq_getElem (by rw [HL.out]; exact hm)]
          rfl] at h9
        exact h9 : W1.cell? ⟨gL, oL + m, none⟩ = some (.int .i64 ((S.getD m 0 : Nat) : Int))))
      clear hI hcL
      have hshort := walk_short HWI.out HD.out
      rw [HL.out] at hshort
      have hlt : i + 1 < 40 := by omega
      clear hshort
      have hx := HWI.out.lt_ (S.getD i 0) (by rw [List.getD, List.getElem?_eq_getElem (by rw [HL.out]; omega)]; exact List.getElem_mem _)
      have cx := HCL.out i (by omega)
      generalize hxx : S.getD i 0 = x at *
      have HXX := hid hxx
      clear hxx
      have m40 : (i : Int) + 1 < 40 := by omega
      have hmi : ((i + 1 : Nat) : Int) - 1 = (i : Int) := by omega
      have hmi2 : (i : Int) + 1 - 1 = (i : Int) := by omega
      have y0 := (HB.out.cell (p := ⟨w.heap.size, 0, none⟩) hGl).trans xf0
      have y1 := (HB.out.cell (p := ⟨w.heap.size, 1, none⟩) hGl).trans x1
      have y2 := (HB.out.cell (p := ⟨w.heap.size, 2, none⟩) hGl).trans x2
      have i1 : (0 : Int) ≤ (i : Int) := by omega
      have i2 : (i : Int) < (i : Int) + 1 := by omega
      have i4 : (0 : Int) ≤ (x : Int) := by omega
      have i5 : (x : Int) < (l1 : Int) := by omega
      have k4 : decide ((i : Int) + 1 < (0 : Int)) = false := by simp; omega
      have k5 : (0 : Int) ≤ (i : Int) + 1 := by omega
      obtain ⟨r1, r2⟩ := HRR.out x hx
      obtain ⟨ra, rl, rc, cr, hr⟩ := HCN.out x hx
      have cr' := (HB.out.cell (p := ⟨bN, oN + x, none⟩) hbN).trans cr
      have rm := hr.hmax
      have rcp := hr.hcap
      have rlen := hr.hlen
      by_cases h0 : rl = 0
      · have HE : Hid (gEd zss (S.getD i 0) x = true) := hid (by rw [HXX.out]; exact r1 (by omega))
        have z0 : decide ((0 : Int) < (rl : Int)) = false := by simp; omega
        have hy := hx
        generalize hyy : x = y at *
        clear r1 r2 hr cr rlen hyy
        go_wp2_with fail
        go_loopw [13] (fun jj wq => ∃ j : Nat, j ≤ i + 1 ∧ jj = .int .i64 j ∧ wq = W1 ∧ Hid (∀ m, m < j → S.getD m 0 ≠ y)) (fun jj _ => i + 1 - (intOf jj).toNat)
        case atStart => exact ⟨0, Nat.zero_le _, rfl, rfl, hid (fun m hm => by omega)⟩
        case round =>
          obtain ⟨j, hj, rfl, rfl, HN⟩ := hrel
          rename World => W1
          by_cases hlj : j < i + 1
          · have cj := HCL.out j hlj
            have q1 : (0 : Int) ≤ (j : Int) := by omega
            have q2 : (j : Int) < (i : Int) + 1 := by omega
            by_cases es : S.getD j 0 = y
            · have HES := hid es
              rw [es] at cj
              have zz : ((y : Int) == (y : Int)) = true := by simp
              have hI := hid HI.out
              have q3 : (j : Int) ≤ (i : Int) + 1 := by omega
              have q4 : (i : Int) + 1 ≤ (cap : Int) := by omega
              have q5 : (j : Int) ≤ (cap : Int) := by omega
              have q6 : ¬ cap = j := by omega
              have q7 : j < cap := by omega
              have BW := hid (HB0.out.trans (HB.out.mono hGm))
              have FIN := hid (fun (bb : Below w.heap.size w W1.drew) => walked_done HWI.out HL.out hlt HE.out hlj HES.out HI.out.drew bb)
              clear es
              go_wp2_with fail
              go_region
              all_goals
                go_wp2_with fail
                go_ret2
                exact FIN.out ⟨BW.out.os, BW.out.tape, BW.out.output, BW.out.size, BW.out.block⟩
            · have HN2 : Hid (∀ m, m < j + 1 → S.getD m 0 ≠ y) := hid (fun m hm => by
                by_cases e : m = j
                · subst e; exact es
                · exact HN.out m (by omega))
              generalize S.getD j 0 = s at *
              have zz : ((s : Int) == (y : Int)) = false := beq_eq_false_iff_ne.2 (by omega)
              have zn : (s == y) = false := beq_eq_false_iff_ne.2 es
              clear es
              go_wp2_with fail
              go_roundw
              case rel => exact ⟨j + 1, by omega, by go_num, by first | rfl | trivial, HN2⟩
              case measure => simp [intOf]; omega
          · obtain rfl : i + 1 = j := by omega
            have own := HO.out
            have hBs := HB.out.size
            go_wp2_with (at_builtin; go_must (refine wpList_append_own _ rfl (.tmp 91) (.tmp 93) 22 rfl W0.heap.size 3 i0 (.int .i64 0) 1 8 Try.underlying22 hi hz0 hz1 hz2 rfl (by decide) _ _ _ rfl (own.alloc _) ⟨W1.heap.size, 0, none⟩ 1 1 [.int .i64 y] rfl rfl ?a1 ?a2 ?a3 ?a4 ?a5 ?_))
            case a1 => exact cell_nine_new _ [_] _
            case a2 => intro u hu; simp at hu; subst hu; rfl
            case a3 => unfold maxLen; omega
            case a4 => omega
            case a5 => simp; omega
            intro v' w8 hown hgrow _
            have B8 := hid ((HB.out.alloc hBs _).grown hgrow (by simp; omega) (fun k h => (own.lt k h).1))
            have O8 : Hid (w8.ownsRow W0.heap.size 3 1 v' (i + 1 + 1) (natInts (S ++ [y]))) := hid (by
              have e1 : natInts (S ++ [y]) = natInts S ++ [.int .i64 (y : Nat)] := by simp [natInts]
              rw [e1]; exact hown)
            have HL8 : Hid ((S ++ [y]).length = i + 1 + 1) := hid (by rw [List.length_append, HL.out]; rfl)
            have HW8 := hid (walk_push HWI.out HL.out hy HE.out)
            have HD8 : Hid (((S ++ [y]).drop (max 0 1)).Nodup) := hid (drop_push HD.out (fun _ k hk => HN.out k (by rw [HL.out] at hk; exact hk)))
            clear hown hgrow own HO HB HWI HL HD HE
            go_wp2_with fail
            go_roundw
            case rel => exact ⟨i + 1, v', S ++ [y], by omega, rfl, by go_num, HL8, HW8, HD8, O8, B8⟩
            case measure => simp [intOf]; omega
      · have z0 : (0 : Int) < (rl : Int) := by omega
        obtain ⟨y, e1, hy, e3⟩ := r2 0 (by omega)
        have HE : Hid (gEd zss (S.getD i 0) y = true) := hid (by rw [HXX.out]; exact e3)
        obtain ⟨bR, oR, eR, hbR, hcR⟩ := hr.hcell (by omega)
        subst eR
        have cR := (HB.out.cell (p := ⟨bR, oR + 0, none⟩) hbR).trans (hcR 0 (by omega))
        rw [e1, Nat.add_zero] at cR
        clear r1 r2 hr cr rlen hcR e1 e3
        go_wp2_with fail
        go_loopw [13] (fun jj wq => ∃ j : Nat, j ≤ i + 1 ∧ jj = .int .i64 j ∧ wq = W1 ∧ Hid (∀ m, m < j → S.getD m 0 ≠ y)) (fun jj _ => i + 1 - (intOf jj).toNat)
        case atStart => exact ⟨0, Nat.zero_le _, rfl, rfl, hid (fun m hm => by omega)⟩
        case round =>
          obtain ⟨j, hj, rfl, rfl, HN⟩ := hrel
          rename World => W1
          by_cases hlj : j < i + 1
          · have cj := HCL.out j hlj
            have q1 : (0 : Int) ≤ (j : Int) := by omega
            have q2 : (j : Int) < (i : Int) + 1 := by omega
            by_cases es : S.getD j 0 = y
            · have HES := hid es
              rw [es] at cj
              have zz : ((y : Int) == (y : Int)) = true := by simp
              have hI := hid HI.out
              have q3 : (j : Int) ≤ (i : Int) + 1 := by omega
              have q4 : (i : Int) + 1 ≤ (cap : Int) := by omega
              have q5 : (j : Int) ≤ (cap : Int) := by omega
              have q6 : ¬ cap = j := by omega
              have q7 : j < cap := by omega
              have BW := hid (HB0.out.trans (HB.out.mono hGm))
              have FIN := hid (fun (bb : Below w.heap.size w W1.drew) => walked_done HWI.out HL.out hlt HE.out hlj HES.out HI.out.drew bb)
              clear es
              go_wp2_with fail
              go_region
              all_goals
                go_wp2_with fail
                go_ret2
                exact FIN.out ⟨BW.out.os, BW.out.tape, BW.out.output, BW.out.size, BW.out.block⟩
            · have HN2 : Hid (∀ m, m < j + 1 → S.getD m 0 ≠ y) := hid (fun m hm => by
                by_cases e : m = j
                · subst e; exact es
                · exact HN.out m (by omega))
              generalize S.getD j 0 = s at *
              have zz : ((s : Int) == (y : Int)) = false := beq_eq_false_iff_ne.2 (by omega)
              have zn : (s == y) = false := beq_eq_false_iff_ne.2 es
              clear es
              go_wp2_with fail
              go_roundw
              case rel => exact ⟨j + 1, by omega, by go_num, by first | rfl | trivial, HN2⟩
              case measure => simp [intOf]; omega
          · obtain rfl : i + 1 = j := by omega
            have own := HO.out
            have hBs := HB.out.size
            go_wp2_with (at_builtin; go_must (refine wpList_append_own _ rfl (.tmp 91) (.tmp 93) 22 rfl W0.heap.size 3 i0 (.int .i64 0) 1 8 Try.underlying22 hi hz0 hz1 hz2 rfl (by decide) _ _ _ rfl (own.alloc _) ⟨W1.heap.size, 0, none⟩ 1 1 [.int .i64 y] rfl rfl ?a1 ?a2 ?a3 ?a4 ?a5 ?_))
            case a1 => exact cell_nine_new _ [_] _
            case a2 => intro u hu; simp at hu; subst hu; rfl
            case a3 => unfold maxLen; omega
            case a4 => omega
            case a5 => simp; omega
            intro v' w8 hown hgrow _
            have B8 := hid ((HB.out.alloc hBs _).grown hgrow (by simp; omega) (fun k h => (own.lt k h).1))
            have O8 : Hid (w8.ownsRow W0.heap.size 3 1 v' (i + 1 + 1) (natInts (S ++ [y]))) := hid (by
              have e1 : natInts (S ++ [y]) = natInts S ++ [.int .i64 (y : Nat)] := by simp [natInts]
              rw [e1]; exact hown)
            have HL8 : Hid ((S ++ [y]).length = i + 1 + 1) := hid (by rw [List.length_append, HL.out]; rfl)
            have HW8 := hid (walk_push HWI.out HL.out hy HE.out)
            have HD8 : Hid (((S ++ [y]).drop (max 0 1)).Nodup) := hid (drop_push HD.out (fun _ k hk => HN.out k (by rw [HL.out] at hk; exact hk)))
            clear hown hgrow own HO HB HWI HL HD HE
            go_wp2_with fail
            go_roundw
            case rel => exact ⟨i + 1, v', S ++ [y], by omega, rfl, by go_num, HL8, HW8, HD8, O8, B8⟩
            case measure => simp [intOf]; omega
  · obtain ⟨b4, o4, e4, hb4, hc4⟩ := J4.out.hcell (by omega)
    subst e4
    have c40 := hc4 0 (by omega)
    rw [Nat.add_zero] at c40
    have ft0 := HF.out 0 (by omega)
    generalize ys.getD 0 0 = z0 at *
    have hpk0 := pickN_lt z0 (n := l3) (by omega)
    have PK0 := hid (fun W => pick_fun z0 l3 W (by omega) (by omega) ft0.1 ft0.2)
    generalize pickN z0 l3 = p0 at *
    obtain ⟨x0, ex0, hx0, hst⟩ := HSS.out p0 (by omega)
    have cs0 := HCS.out p0 (by omega)
    rw [ex0] at cs0
    have e40 : (0 : Int) < (l4 : Int) := by omega
    have e40n : 0 < l4 := by omega
    have e40b : decide (0 < l4) = true := by simp; omega
    clear h40
    have s0 : (p0 : Int) < (l3 : Int) := by omega
    have s1 : (0 : Int) ≤ (p0 : Int) := by omega
    clear hc4
    go_enter Try.func29, Try.ntmps29
    go_wp2_with fail
    have HWS : Hid ((w.alloc (.cells #[.slice a1 l1 c1, .slice (some ⟨bN, oN, none⟩) l1 c2, .slice (some ⟨bS, oS, none⟩) l3 c3] 46)).heap.size = w.heap.size + 1) := hid (by simp)
    generalize hW : (w.alloc (.cells #[.slice a1 l1 c1, .slice (some ⟨bN, oN, none⟩) l1 c2, .slice (some ⟨bS, oS, none⟩) l3 c3] 46)) = W0 at *
    clear hW
    go_quiet ((go_at_call 34; exact Calls.quiet_of_same (PK0.out _)))
    have HBq := hid (below_drewN (Below.refl W0.heap.size W0) nq)
    have y2 := (HBq.out.cell (p := ⟨w.heap.size, 2, none⟩) hGl).trans x2
    have cs1 := (HBq.out.cell (p := ⟨bS, oS + p0, none⟩) hbS).trans cs0
    have x1' := (HBq.out.cell (p := ⟨w.heap.size, 1, none⟩) hGl).trans x1
    have xf0' := (HBq.out.cell (p := ⟨w.heap.size, 0, none⟩) hGl).trans xf0
    have HCN' := hid (fun i (hi : i < l1) => (by
      obtain ⟨a, l, c, q1, q2⟩ := HCN.out i hi
      exact ⟨a, l, c, (HBq.out.cell (p := ⟨bN, oN + i, none⟩) hbN).trans q1, q2.below HBq.out⟩ : ∃ a l c, (W0.drewN nq).cell? ⟨bN, oN + i, none⟩ = some (.slice a l c) ∧ Ints (W0.drewN nq) a l c (zss.getD i [])))
    have J4' := hid (J4.out.below HBq.out)
    have HB0' := hid (below_drewN HB0.out nq)
    have hGl' : w.heap.size < (W0.drewN nq).heap.size := hGl
    have hbN' : bN < (W0.drewN nq).heap.size := hbN
    clear xf0 x1 x2 HCN J4 HB0 hGl hbN cs0 c40 HBq PK0 T0 HCS
    generalize W0.drewN nq = W0' at *
    rename_i W0old
    clear hbS
    have hcn := HCN'
    have xf0 := xf0'
    have x1 := x1'
    have x2 := y2
    have HCN := HCN'
    have J4 := J4'
    have HB0 := HB0'
    have hGl := hGl'
    have hbN := hbN'
    clear xf0' x1' y2 HCN' J4' HB0' hGl' hbN' hcn
    have hGm : w.heap.size ≤ W0'.heap.size := by omega
    have O0 : Hid ((W0'.alloc (.cells #[.int .i64 (x0 : Nat)] 3)).ownsRow W0'.heap.size 3 1 (.slice (some ⟨W0'.heap.size, 0, none⟩) 1 1) 1 (natInts [x0])) := hid (World.ownsRow_lit W0' #[.int .i64 (x0 : Nat)] 1 (Nat.le_refl _) (by unfold maxLen; omega) rfl)
    have BA := hid ((Below.refl W0'.heap.size W0').alloc (Nat.le_refl _) (.cells #[.int .i64 (x0 : Nat)] 3))
    have HW1 := hid (walk_one (n := l1) (ed := gEd zss) (st := gSt ss) hx0 hst)
    have HN1 : Hid ((([x0] : List Nat).drop (max l4 1)).Nodup) := hid (by rw [List.drop_eq_nil_of_le (by simp <;> omega)]; exact List.nodup_nil)
    go_wp2_with fail
    go_loopw [7, 8] (fun v ii wq => ∃ (i : Nat) (vL : Value) (S : List Nat), i + 1 ≤ 40 ∧ vL = v ∧ ii = .int .i64 ((i + 1 : Nat) : Int) ∧ Hid (S.length = i + 1) ∧ Hid (KWkI l1 (gEd zss) (gSt ss) S) ∧ Hid ((S.drop (max l4 1)).Nodup) ∧ Hid (wq.ownsRow W0'.heap.size 3 1 vL (i + 1) (natInts S)) ∧ Hid (Below W0'.heap.size W0' wq)) (fun _ ii _ => 40 - (intOf ii).toNat)
    case atStart => exact ⟨0, _, [x0], by omega, rfl, rfl, hid rfl, HW1, HN1, O0, BA⟩
    case round =>
      clear O0 BA HW1 HN1
      obtain ⟨i, vL, S, hi40, rfl, rfl, HL, HWI, HD, HO, HB⟩ := hrel
      rename World => W1
      have hs1 := HB.out.size
      obtain ⟨ao, cap, rfl, hI⟩ := own_ints HO.out HL.out
      obtain ⟨gL, oL, rfl, hgL, hcL⟩ := hI.hcell (by omega)
      have hcap := hI.hcap
      have hcmx := hI.hmax
      have HI := hid hI
      have HCL := hid (fun m (hm : m < i + 1) => (by
        have h9 := hcL m hm
        rw [show (intsOf S).getD m 0 = ((S.getD m 0 : Nat) : Int) by
          unfold intsOf
          rw [List.getD, List.getD, List.getElem?_map, List.getElem?_eq_getElem (by rw [HL.out]; exact hm)]
          rfl] at h9
        exact h9 : W1.cell? ⟨gL, oL + m, none⟩ = some (.int .i64 ((S.getD m 0 : Nat) : Int))))
      clear hI hcL
      have hshort := walk_short HWI.out HD.out
      rw [HL.out] at hshort
      have hlt : i + 1 < 40 := by omega
      clear hshort
      have hx := HWI.out.lt_ (S.getD i 0) (by rw [List.getD, List.getElem?_eq_getElem (by rw [HL.out]; omega)]; exact List.getElem_mem _)
      have cx := HCL.out i (by omega)
      generalize hxx : S.getD i 0 = x at *
      have HXX := hid hxx
      clear hxx
      have m40 : (i : Int) + 1 < 40 := by omega
      have hmi : ((i + 1 : Nat) : Int) - 1 = (i : Int) := by omega
      have hmi2 : (i : Int) + 1 - 1 = (i : Int) := by omega
      have y0 := (HB.out.cell (p := ⟨w.heap.size, 0, none⟩) hGl).trans xf0
      have y1 := (HB.out.cell (p := ⟨w.heap.size, 1, none⟩) hGl).trans x1
      have y2 := (HB.out.cell (p := ⟨w.heap.size, 2, none⟩) hGl).trans x2
      have i1 : (0 : Int) ≤ (i : Int) := by omega
      have i2 : (i : Int) < (i : Int) + 1 := by omega
      have i4 : (0 : Int) ≤ (x : Int) := by omega
      have i5 : (x : Int) < (l1 : Int) := by omega
      by_cases hA : i + 1 < l4
      · skip
        have k4 : (i : Int) + 1 < (l4 : Int) := by omega
        have k5 : decide ((l4 : Int) ≤ (i : Int) + 1) = false := by simp; omega
        obtain ⟨b4, o4, e4, hb4, hc4⟩ := J4.out.hcell (by omega)
        cases e4
        have c4' := (HB.out.cell (p := ⟨b4, o4 + (i + 1), none⟩) hb4).trans (hc4 (i + 1) hA)
        have ft := HF.out (i + 1) hA
        have i6 : (0 : Int) ≤ (i : Int) + 1 := by omega
        clear hc4
        generalize ys.getD (i + 1) 0 = z4 at *
        obtain ⟨r1, r2⟩ := HRR.out x hx
        obtain ⟨ra, rl, rc, cr, hr⟩ := HCN.out x hx
        have cr' := (HB.out.cell (p := ⟨bN, oN + x, none⟩) hbN).trans cr
        have rm := hr.hmax
        have rcp := hr.hcap
        have rlen := hr.hlen
        by_cases h0 : rl = 0
        · have HE : Hid (gEd zss (S.getD i 0) x = true) := hid (by rw [HXX.out]; exact r1 (by omega))
          have z0 : decide ((0 : Int) < (rl : Int)) = false := by simp; omega
          have hy := hx
          generalize hyy : x = y at *
          clear r1 r2 hr cr rlen hyy
          go_wp2_with fail
          go_loopw [13] (fun jj wq => ∃ j : Nat, j ≤ i + 1 ∧ jj = .int .i64 j ∧ wq = W1) (fun jj _ => i + 1 - (intOf jj).toNat)
          case atStart => exact ⟨0, Nat.zero_le _, rfl, rfl⟩
          case round =>
            obtain ⟨j, hj, rfl, rfl⟩ := hrel
            rename World => W1
            by_cases hlj : j < i + 1
            · have cj := HCL.out j hlj
              generalize S.getD j 0 = s at *
              have q1 : (0 : Int) ≤ (j : Int) := by omega
              have q2 : (j : Int) < (i : Int) + 1 := by omega
              by_cases es : s = y
              · have zz : ((s : Int) == (y : Int)) = true := by simp [es]
                have zn : (s == y) = true := by simp [es]
                clear es
                go_wp2_with fail
                go_roundw
                case rel => exact ⟨j + 1, by omega, by go_num, by first | rfl | trivial⟩
                case measure => simp [intOf]; omega
              · have zz : ((s : Int) == (y : Int)) = false := beq_eq_false_iff_ne.2 (by omega)
                have zn : (s == y) = false := beq_eq_false_iff_ne.2 es
                clear es
                go_wp2_with fail
                go_roundw
                case rel => exact ⟨j + 1, by omega, by go_num, by first | rfl | trivial⟩
                case measure => simp [intOf]; omega
            · obtain rfl : i + 1 = j := by omega
              have own := HO.out
              have hBs := HB.out.size
              go_wp2_with (at_builtin; go_must (refine wpList_append_own _ rfl (.tmp 91) (.tmp 93) 22 rfl W0'.heap.size 3 i0 (.int .i64 0) 1 8 Try.underlying22 hi hz0 hz1 hz2 rfl (by decide) _ _ _ rfl (own.alloc _) ⟨W1.heap.size, 0, none⟩ 1 1 [.int .i64 y] rfl rfl ?a1 ?a2 ?a3 ?a4 ?a5 ?_))
              case a1 => exact cell_nine_new _ [_] _
              case a2 => intro u hu; simp at hu; subst hu; rfl
              case a3 => unfold maxLen; omega
              case a4 => omega
              case a5 => simp; omega
              intro v' w8 hown hgrow _
              have B8 := hid ((HB.out.alloc hBs _).grown hgrow (by simp; omega) (fun k h => (own.lt k h).1))
              have O8 : Hid (w8.ownsRow W0'.heap.size 3 1 v' (i + 1 + 1) (natInts (S ++ [y]))) := hid (by
                have e1 : natInts (S ++ [y]) = natInts S ++ [.int .i64 (y : Nat)] := by simp [natInts]
                rw [e1]; exact hown)
              have HL8 : Hid ((S ++ [y]).length = i + 1 + 1) := hid (by rw [List.length_append, HL.out]; rfl)
              have HW8 := hid (walk_push HWI.out HL.out hy HE.out)
              have HD8 : Hid (((S ++ [y]).drop (max l4 1)).Nodup) := hid (drop_push HD.out (fun h => by have := HL.out; omega))
              clear hown hgrow own HO HB HWI HL HD HE
              go_wp2_with fail
              go_roundw
              case rel => exact ⟨i + 1, v', S ++ [y], by omega, rfl, by go_num, HL8, HW8, HD8, O8, B8⟩
              case measure => simp [intOf]; omega
        · have z0 : (0 : Int) < (rl : Int) := by omega
          have hpk := pickN_lt z4 (n := rl) (by omega)
          have PK := hid (fun W => pick_fun z4 rl W (by omega) (by omega) ft.1 ft.2)
          generalize pickN z4 rl = c at *
          obtain ⟨y, e1, hy, e3⟩ := r2 c (by omega)
          have HE : Hid (gEd zss (S.getD i 0) y = true) := hid (by rw [HXX.out]; exact e3)
          obtain ⟨bR, oR, eR, hbR, hcR⟩ := hr.hcell (by omega)
          subst eR
          have cR := (HB.out.cell (p := ⟨bR, oR + c, none⟩) hbR).trans (hcR c (by omega))
          rw [e1] at cR
          have j1 : (0 : Int) ≤ (c : Int) := by omega
          have j2 : (c : Int) < (rl : Int) := by omega
          clear r1 r2 hr cr rlen hcR e1 e3
          go_wp2_with fail
          refine (PK.out _).mono ?_
          rintro e w7 ⟨rfl, rfl⟩
          rename World => W1
          clear PK
          go_wp2_with fail
          go_loopw [13] (fun jj wq => ∃ j : Nat, j ≤ i + 1 ∧ jj = .int .i64 j ∧ wq = W1) (fun jj _ => i + 1 - (intOf jj).toNat)
          case atStart => exact ⟨0, Nat.zero_le _, rfl, rfl⟩
          case round =>
            obtain ⟨j, hj, rfl, rfl⟩ := hrel
            rename World => W1
            by_cases hlj : j < i + 1
            · have cj := HCL.out j hlj
              generalize S.getD j 0 = s at *
              have q1 : (0 : Int) ≤ (j : Int) := by omega
              have q2 : (j : Int) < (i : Int) + 1 := by omega
              by_cases es : s = y
              · have zz : ((s : Int) == (y : Int)) = true := by simp [es]
                have zn : (s == y) = true := by simp [es]
                clear es
                go_wp2_with fail
                go_roundw
                case rel => exact ⟨j + 1, by omega, by go_num, by first | rfl | trivial⟩
                case measure => simp [intOf]; omega
              · have zz : ((s : Int) == (y : Int)) = false := beq_eq_false_iff_ne.2 (by omega)
                have zn : (s == y) = false := beq_eq_false_iff_ne.2 es
                clear es
                go_wp2_with fail
                go_roundw
                case rel => exact ⟨j + 1, by omega, by go_num, by first | rfl | trivial⟩
                case measure => simp [intOf]; omega
            · obtain rfl : i + 1 = j := by omega
              have own := HO.out
              have hBs := HB.out.size
              go_wp2_with (at_builtin; go_must (refine wpList_append_own _ rfl (.tmp 91) (.tmp 93) 22 rfl W0'.heap.size 3 i0 (.int .i64 0) 1 8 Try.underlying22 hi hz0 hz1 hz2 rfl (by decide) _ _ _ rfl (own.alloc _) ⟨W1.heap.size, 0, none⟩ 1 1 [.int .i64 y] rfl rfl ?a1 ?a2 ?a3 ?a4 ?a5 ?_))
              case a1 => exact cell_nine_new _ [_] _
              case a2 => intro u hu; simp at hu; subst hu; rfl
              case a3 => unfold maxLen; omega
              case a4 => omega
              case a5 => simp; omega
              intro v' w8 hown hgrow _
              have B8 := hid ((HB.out.alloc hBs _).grown hgrow (by simp; omega) (fun k h => (own.lt k h).1))
              have O8 : Hid (w8.ownsRow W0'.heap.size 3 1 v' (i + 1 + 1) (natInts (S ++ [y]))) := hid (by
                have e1 : natInts (S ++ [y]) = natInts S ++ [.int .i64 (y : Nat)] := by simp [natInts]
                rw [e1]; exact hown)
              have HL8 : Hid ((S ++ [y]).length = i + 1 + 1) := hid (by rw [List.length_append, HL.out]; rfl)
              have HW8 := hid (walk_push HWI.out HL.out hy HE.out)
              have HD8 : Hid (((S ++ [y]).drop (max l4 1)).Nodup) := hid (drop_push HD.out (fun h => by have := HL.out; omega))
              clear hown hgrow own HO HB HWI HL HD HE
              go_wp2_with fail
              go_roundw
              case rel => exact ⟨i + 1, v', S ++ [y], by omega, rfl, by go_num, HL8, HW8, HD8, O8, B8⟩
              case measure => simp [intOf]; omega
      · skip
        have k4 : decide ((i : Int) + 1 < (l4 : Int)) = false := by simp; omega
        have k5 : (l4 : Int) ≤ (i : Int) + 1 := by omega
        obtain ⟨r1, r2⟩ := HRR.out x hx
        obtain ⟨ra, rl, rc, cr, hr⟩ := HCN.out x hx
        have cr' := (HB.out.cell (p := ⟨bN, oN + x, none⟩) hbN).trans cr
        have rm := hr.hmax
        have rcp := hr.hcap
        have rlen := hr.hlen
        by_cases h0 : rl = 0
        · have HE : Hid (gEd zss (S.getD i 0) x = true) := hid (by rw [HXX.out]; exact r1 (by omega))
          have z0 : decide ((0 : Int) < (rl : Int)) = false := by simp; omega
          have hy := hx
          generalize hyy : x = y at *
          clear r1 r2 hr cr rlen hyy
          go_wp2_with fail
          go_loopw [13] (fun jj wq => ∃ j : Nat, j ≤ i + 1 ∧ jj = .int .i64 j ∧ wq = W1 ∧ Hid (∀ m, m < j → S.getD m 0 ≠ y)) (fun jj _ => i + 1 - (intOf jj).toNat)
          case atStart => exact ⟨0, Nat.zero_le _, rfl, rfl, hid (fun m hm => by omega)⟩
          case round =>
            obtain ⟨j, hj, rfl, rfl, HN⟩ := hrel
            rename World => W1
            by_cases hlj : j < i + 1
            · have cj := HCL.out j hlj
              have q1 : (0 : Int) ≤ (j : Int) := by omega
              have q2 : (j : Int) < (i : Int) + 1 := by omega
              by_cases es : S.getD j 0 = y
              · have HES := hid es
                rw [es] at cj
                have zz : ((y : Int) == (y : Int)) = true := by simp
                have hI := hid HI.out
                have q3 : (j : Int) ≤ (i : Int) + 1 := by omega
                have q4 : (i : Int) + 1 ≤ (cap : Int) := by omega
                have q5 : (j : Int) ≤ (cap : Int) := by omega
                have q6 : ¬ cap = j := by omega
                have q7 : j < cap := by omega
                have BW := hid (HB0.out.trans (HB.out.mono hGm))
                have FIN := hid (fun (bb : Below w.heap.size w W1.drew) => walked_done HWI.out HL.out hlt HE.out hlj HES.out HI.out.drew bb)
                clear es
                go_wp2_with fail
                go_region
                all_goals
                  go_wp2_with fail
                  go_ret2
                  exact FIN.out ⟨BW.out.os, BW.out.tape, BW.out.output, BW.out.size, BW.out.block⟩
              · have HN2 : Hid (∀ m, m < j + 1 → S.getD m 0 ≠ y) := hid (fun m hm => by
                  by_cases e : m = j
                  · subst e; exact es
                  · exact HN.out m (by omega))
                generalize S.getD j 0 = s at *
                have zz : ((s : Int) == (y : Int)) = false := beq_eq_false_iff_ne.2 (by omega)
                have zn : (s == y) = false := beq_eq_false_iff_ne.2 es
                clear es
                go_wp2_with fail
                go_roundw
                case rel => exact ⟨j + 1, by omega, by go_num, by first | rfl | trivial, HN2⟩
                case measure => simp [intOf]; omega
            · obtain rfl : i + 1 = j := by omega
              have own := HO.out
              have hBs := HB.out.size
              go_wp2_with (at_builtin; go_must (refine wpList_append_own _ rfl (.tmp 91) (.tmp 93) 22 rfl W0'.heap.size 3 i0 (.int .i64 0) 1 8 Try.underlying22 hi hz0 hz1 hz2 rfl (by decide) _ _ _ rfl (own.alloc _) ⟨W1.heap.size, 0, none⟩ 1 1 [.int .i64 y] rfl rfl ?a1 ?a2 ?a3 ?a4 ?a5 ?_))
              case a1 => exact cell_nine_new _ [_] _
              case a2 => intro u hu; simp at hu; subst hu; rfl
              case a3 => unfold maxLen; omega
              case a4 => omega
              case a5 => simp; omega
              intro v' w8 hown hgrow _
              have B8 := hid ((HB.out.alloc hBs _).grown hgrow (by simp; omega) (fun k h => (own.lt k h).1))
              have O8 : Hid (w8.ownsRow W0'.heap.size 3 1 v' (i + 1 + 1) (natInts (S ++ [y]))) := hid (by
                have e1 : natInts (S ++ [y]) = natInts S ++ [.int .i64 (y : Nat)] := by simp [natInts]
                rw [e1]; exact hown)
              have HL8 : Hid ((S ++ [y]).length = i + 1 + 1) := hid (by rw [List.length_append, HL.out]; rfl)
              have HW8 := hid (walk_push HWI.out HL.out hy HE.out)
              have HD8 : Hid (((S ++ [y]).drop (max l4 1)).Nodup) := hid (drop_push HD.out (fun _ k hk => HN.out k (by rw [HL.out] at hk; exact hk)))
              clear hown hgrow own HO HB HWI HL HD HE
              go_wp2_with fail
              go_roundw
              case rel => exact ⟨i + 1, v', S ++ [y], by omega, rfl, by go_num, HL8, HW8, HD8, O8, B8⟩
              case measure => simp [intOf]; omega
        · have z0 : (0 : Int) < (rl : Int) := by omega
          obtain ⟨y, e1, hy, e3⟩ := r2 0 (by omega)
          have HE : Hid (gEd zss (S.getD i 0) y = true) := hid (by rw [HXX.out]; exact e3)
          obtain ⟨bR, oR, eR, hbR, hcR⟩ := hr.hcell (by omega)
          subst eR
          have cR := (HB.out.cell (p := ⟨bR, oR + 0, none⟩) hbR).trans (hcR 0 (by omega))
          rw [e1, Nat.add_zero] at cR
          clear r1 r2 hr cr rlen hcR e1 e3
          go_wp2_with fail
          go_loopw [13] (fun jj wq => ∃ j : Nat, j ≤ i + 1 ∧ jj = .int .i64 j ∧ wq = W1 ∧ Hid (∀ m, m < j → S.getD m 0 ≠ y)) (fun jj _ => i + 1 - (intOf jj).toNat)
          case atStart => exact ⟨0, Nat.zero_le _, rfl, rfl, hid (fun m hm => by omega)⟩
          case round =>
            obtain ⟨j, hj, rfl, rfl, HN⟩ := hrel
            rename World => W1
            by_cases hlj : j < i + 1
            · have cj := HCL.out j hlj
              have q1 : (0 : Int) ≤ (j : Int) := by omega
              have q2 : (j : Int) < (i : Int) + 1 := by omega
              by_cases es : S.getD j 0 = y
              · have HES := hid es
                rw [es] at cj
                have zz : ((y : Int) == (y : Int)) = true := by simp
                have hI := hid HI.out
                have q3 : (j : Int) ≤ (i : Int) + 1 := by omega
                have q4 : (i : Int) + 1 ≤ (cap : Int) := by omega
                have q5 : (j : Int) ≤ (cap : Int) := by omega
                have q6 : ¬ cap = j := by omega
                have q7 : j < cap := by omega
                have BW := hid (HB0.out.trans (HB.out.mono hGm))
                have FIN := hid (fun (bb : Below w.heap.size w W1.drew) => walked_done HWI.out HL.out hlt HE.out hlj HES.out HI.out.drew bb)
                clear es
                go_wp2_with fail
                go_region
                all_goals
                  go_wp2_with fail
                  go_ret2
                  exact FIN.out ⟨BW.out.os, BW.out.tape, BW.out.output, BW.out.size, BW.out.block⟩
              · have HN2 : Hid (∀ m, m < j + 1 → S.getD m 0 ≠ y) := hid (fun m hm => by
                  by_cases e : m = j
                  · subst e; exact es
                  · exact HN.out m (by omega))
                generalize S.getD j 0 = s at *
                have zz : ((s : Int) == (y : Int)) = false := beq_eq_false_iff_ne.2 (by omega)
                have zn : (s == y) = false := beq_eq_false_iff_ne.2 es
                clear es
                go_wp2_with fail
                go_roundw
                case rel => exact ⟨j + 1, by omega, by go_num, by first | rfl | trivial, HN2⟩
                case measure => simp [intOf]; omega
            · obtain rfl : i + 1 = j := by omega
              have own := HO.out
              have hBs := HB.out.size
              go_wp2_with (at_builtin; go_must (refine wpList_append_own _ rfl (.tmp 91) (.tmp 93) 22 rfl W0'.heap.size 3 i0 (.int .i64 0) 1 8 Try.underlying22 hi hz0 hz1 hz2 rfl (by decide) _ _ _ rfl (own.alloc _) ⟨W1.heap.size, 0, none⟩ 1 1 [.int .i64 y] rfl rfl ?a1 ?a2 ?a3 ?a4 ?a5 ?_))
              case a1 => exact cell_nine_new _ [_] _
              case a2 => intro u hu; simp at hu; subst hu; rfl
              case a3 => unfold maxLen; omega
              case a4 => omega
              case a5 => simp; omega
              intro v' w8 hown hgrow _
              have B8 := hid ((HB.out.alloc hBs _).grown hgrow (by simp; omega) (fun k h => (own.lt k h).1))
              have O8 : Hid (w8.ownsRow W0'.heap.size 3 1 v' (i + 1 + 1) (natInts (S ++ [y]))) := hid (by
                have e1 : natInts (S ++ [y]) = natInts S ++ [.int .i64 (y : Nat)] := by simp [natInts]
                rw [e1]; exact hown)
              have HL8 : Hid ((S ++ [y]).length = i + 1 + 1) := hid (by rw [List.length_append, HL.out]; rfl)
              have HW8 := hid (walk_push HWI.out HL.out hy HE.out)
              have HD8 : Hid (((S ++ [y]).drop (max l4 1)).Nodup) := hid (drop_push HD.out (fun _ k hk => HN.out k (by rw [HL.out] at hk; exact hk)))
              clear hown hgrow own HO HB HWI HL HD HE
              go_wp2_with fail
              go_roundw
              case rel => exact ⟨i + 1, v', S ++ [y], by omega, rfl, by go_num, HL8, HW8, HD8, O8, B8⟩
              case measure => simp [intOf]; omega

end
end Go.Proofs.Ytjagijohfkffiab
