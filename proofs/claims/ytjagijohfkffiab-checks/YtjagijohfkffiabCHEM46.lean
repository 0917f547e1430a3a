import Derived.Test.YtjagijohfkffiabCHEM20
import Derived.Test.YtjagijohfkffiabCHEM24
import Derived.Test.YtjagijohfkffiabCHEM25
import Derived.Test.YtjagijohfkffiabCHEM30
import Derived.Test.YtjagijohfkffiabCHEM45
import Derived.Deep.RegionWith
import Derived.Deep.RegionLaw
import Derived.BigQuiet

/- The walk of the reference's Shows, where a path is shown. -/
namespace Go.Proofs.Ytjagijohfkffiab
open Go.RowKit
set_option linter.unusedVariables false

theorem Fm.below {w w' : World} {F : Nat} {ns : List Nd} {bs : List Nat} (h : Fm w F ns bs) (hb : Below w.heap.size w w') : Fm w' F ns bs := by
  obtain ⟨ao, cap, c, own⟩ := h.c0
  refine ⟨⟨ao, cap, (hb.cell (p := ⟨F, 0, none⟩) h.ltF).trans c, own_keeps own hb⟩, (hb.frozen (p := ⟨F, 0, none⟩) h.ltF).trans h.f0, h.len, h.wf, fun i n hn => ?_⟩
  obtain ⟨b, e, hF, hh⟩ := h.parts i n hn
  exact ⟨b, e, hF, (hb.block b (heap_lt hh)).trans hh⟩

/-- A part of a slice: its beginning, and its rest. -/
theorem ints_take {w : World} {b off len cap n : Nat} {zs : List Int} (h : Ints w (some ⟨b, off, none⟩) len cap zs) (hn : n ≤ len) : Ints w (some ⟨b, off, none⟩) n cap (zs.take n) := by
  refine ⟨by have := h.hlen; simp; omega, by have := h.hcap; omega, h.hmax, fun e => by simp at e, fun h0 => ?_⟩
  obtain ⟨b', off', e, hb, hc⟩ := h.hcell (by omega)
  refine ⟨b', off', e, hb, fun i hi => ?_⟩
  rw [hc i (by omega)]
  simp [List.getD, hi]
theorem ints_drop {w : World} {b off len cap n : Nat} {zs : List Int} (h : Ints w (some ⟨b, off, none⟩) len cap zs) (hn : n ≤ len) : Ints w (some ⟨b, off + n, none⟩) (len - n) (cap - n) (zs.drop n) := by
  refine ⟨by have := h.hlen; simp; omega, by have := h.hcap; omega, by have := h.hmax; omega, fun e => by simp at e, fun h0 => ?_⟩
  obtain ⟨b', off', e, hb, hc⟩ := h.hcell (by omega)
  cases e
  refine ⟨b, off + n, rfl, hb, fun i hi => ?_⟩
  rw [Nat.add_assoc, hc (n + i) (by omega)]
  simp [List.getD]

/-- The letters of the first j nodes. -/
def ltsTo (lt : Nat → Nat) (S : List Nat) (j : Nat) : List Nat := (S.take j).map lt
theorem ltsTo_succ {lt : Nat → Nat} {S : List Nat} {j : Nat} (h : j < S.length) : ltsTo lt S (j + 1) = ltsTo lt S j ++ [lt (S.getD j 0)] := by
  unfold ltsTo
  rw [List.take_succ_eq_append_getElem h, List.map_append]
  simp [List.getD, List.getElem?_eq_getElem h]
theorem ltsTo_all {lt : Nat → Nat} {S : List Nat} : ltsTo lt S S.length = S.map lt := by simp [ltsTo]

theorem below_drew1 {B : Nat} {w w' : World} (h : Below B w w') : Below B w w'.drew := ⟨h.os, h.tape, h.output, h.size, h.block⟩

section
variable (a1 a2 a3 a4 a5 : Option Addr) (l1 c1 l2 c2 l3 c3 l4 c4 l5 c5 : Nat) (zs : List Int) (zss : List (List Int)) (ss : List Int) (SA SB : List Nat) (s : ByteArray) (w : World)

set_option maxHeartbeats 8000000 in
set_option maxRecDepth 100000 in
theorem shows_any (hm : s.size ≤ maxLen) (h1 : Ints w a1 l1 c1 zs) (h2 : Lists w a2 l2 c2 zss) (h3 : Ints w a3 l3 c3 ss) (h4 : Ints w a4 l4 c4 (intsOf SA)) (h5 : Ints w a5 l5 c5 (intsOf SB)) (hG : graphB zs zss ss = true) (h : (parseOf s).1 = 0)
    (hS : ShowsP (parseOf s).2 zs.length (gLt zs) (gEd zss) (gSt ss) SA SB) :
    Calls Try.prog 24 #[.agg #[.slice a1 l1 c1, .slice a2 l2 c2, .slice a3 l3 c3], .string s, .slice a4 l4 c4, .slice a5 l5 c5] w fun e w' => e = .returned (.bool true) ∧ Below w.heap.size w w' := by
  have ba := (Below.refl w.heap.size w).alloc (Nat.le_refl _) (.cells #[.slice a1 l1 c1, .slice a2 l2 c2, .slice a3 l3 c3] 46)
  have T0 := hid (three_new w (.slice a1 l1 c1) (.slice a2 l2 c2) (.slice a3 l3 c3) 46)
  have L1 := h1.hlen
  have L2 := h2.hlen
  have L3 := h3.hlen
  have L4 : SA.length = l4 := by rw [← intsOf_len]; exact h4.hlen
  have L5 : SB.length = l5 := by rw [← intsOf_len]; exact h5.hlen
  obtain ⟨g1, g6, g21, gal, g3, gnu⟩ : 1 ≤ l1 ∧ l1 ≤ 6 ∧ l1 = l2 ∧ allL zs = true ∧ l3 ≠ 0 ∧ numB l1 ss = true := by
    have h9 := hG
    unfold graphB at h9
    rw [L1, L2, L3] at h9
    simp only [Bool.and_eq_true, decide_eq_true_eq] at h9
    exact ⟨h9.1.1.1.1.1.1, h9.1.1.1.1.1.2, h9.1.1.1.1.2.symm, h9.1.1.1.2, h9.1.1.2, h9.1.2⟩
  subst g21
  have HAL := hid gal
  have HLL := hid L1
  have HSS := hid hS
  have q1 : 0 < l5 := by have := show_pos hS; omega
  have q2 : l4 + l5 ≤ 20000 := by have := hS.len; omega
  have m1 := h1.hcap
  have m2 := h1.hmax
  have n1 := h2.hcap
  have n2 := h2.hmax
  have o1 := h3.hcap
  have o2 := h3.hmax
  have p4 := h4.hcap
  have p4' := h4.hmax
  have p5 := h5.hcap
  have p5' := h5.hmax
  have J1 := hid (h1.below ba)
  have J2 := hid (h2.below ba)
  have J3 := hid (h3.below ba)
  have J4 := hid (h4.below ba)
  have J5 := hid (h5.below ba)
  have HB0 := hid ba
  have HGB := hid hG
  have C := hid (fun W => formulate_any s W hm)
  unfold Formulated at C
  have GD := hid (parse_good h)
  have HNOT := hid (show_not (parse_good h) hS (fun i hi => (by
    have h9 := allL_at gal (j := i) hi
    have h8 := isL_iff.1 h9
    unfold gLt
    omega)))
  have HNUM := hid (show_num hS)
  obtain ⟨j0, hj0, hjs⟩ := show_start hS
  have HJ0 := hid hjs
  rw [L3] at hj0
  have HLT := hid (fun i (hi : i < (SA ++ SB).length) => show_lt hS i hi)
  have HED := hid (fun i (hi : i < (SA ++ SB).length) => show_edge hS i hi)
  have hAB : (SA ++ SB).length = l4 + l5 := by rw [List.length_append, L4, L5]
  have H4L := hid L4
  have H5L := hid L5
  have HABL := hid hAB
  have HS3 := hid L3
  generalize parseOf s = p at *
  obtain ⟨p1, ns⟩ := p
  dsimp only at *
  subst h
  have o4 : ∀ u ∈ natInts SA, u.oneCell' = true := by rw [← intsOf_vals]; exact int_one _
  have o5 : ∀ u ∈ natInts SB, u.oneCell' = true := by rw [← intsOf_vals]; exact int_one _
  have HO4 := hid o4
  have HO5 := hid o5
  obtain ⟨i0, hi, hz0, hz1, hz2⟩ := info_parts Try.infoInt
  clear h1 h2 h3 h4 h5 ba L1 L2 L3 L4 L5 gal gnu hG hm hS hjs hAB o4 o5
  go_enter Try.func24, Try.ntmps24
  go_wp2_with fail
  refine (C.out _).mono ?_
  rintro e w1 ⟨b1, ⟨h0, _⟩ | ⟨_, bs, rfl, hf⟩⟩
  · exact absurd rfl h0
  have T1 := T0.out.below b1 (by simp)
  have x0 := T1.c0
  have x1 := T1.c1
  have x2 := T1.c2
  have IG := hid (isGraph_any a1 a2 a3 l1 c1 l1 c2 l3 c3 zs zss ss w1 (J1.out.below b1) (J2.out.below b1) (J3.out.below b1))
  rw [HGB.out] at IG
  rw [World.size_alloc] at hf
  have HF1 := hid hf
  have B1 := hid b1
  have HT1 := hid T1
  clear C b1 hf T1 T0
  go_wp2_with fail
  refine IG.out.mono ?_
  rintro e w2 ⟨rfl, b2⟩
  have HB1 := hid (HB0.out.trans (B1.out.mono HB0.out.size))
  have HF2 := hid (HF1.out.below b2)
  have hG1 : w.heap.size < w1.heap.size := HT1.out.lt
  have HT2 := hid (HT1.out.below b2 hG1)
  have B2 := hid (B1.out.trans (b2.mono B1.out.size))
  have HB2 := hid (HB0.out.trans (B2.out.mono HB0.out.size))
  have hG2 : w.heap.size < w2.heap.size := HT2.out.lt
  have K1 := hid (J1.out.below B2.out)
  have K2 := hid (J2.out.below B2.out)
  have K3 := hid (J3.out.below B2.out)
  have K4 := hid (J4.out.below B2.out)
  have K5 := hid (J5.out.below B2.out)
  clear IG b2 HF1 HT1 B1 HB1 J1 J2 J3 J4 J5 x0 x1 x2 HB0 B2 HGB
  have e5 : ((l5 : Int) == 0) = false := beq_eq_false_iff_ne.2 (by omega)
  have e6 : decide ((20000 : Int) < (l4 : Int) + (l5 : Int)) = false := by simp; omega
  have y0 := HT2.out.c0
  have y1 := HT2.out.c1
  have y2 := HT2.out.c2
  have s4 := K4.out.src
  rw [intsOf_vals] at s4
  have N4 := K4.out.hnil
  go_wp2_with (at_builtin; go_must (refine wpList_append_any _ rfl (.tmp 46) (.tmp 47) 22 rfl w2.heap.size 3 i0 (.int .i64 0) 1 8 Try.underlying22 hi hz0 hz1 hz2 rfl (by decide) _ 0 [] rfl (World.ownsRow_nil _ _ _ _) a4 l4 c4 (natInts SA) rfl ?n1 N4 s4 HO4.out ?n2 ?n3 (Nat.le_refl _) ?_))
  case n1 => simp [natInts, H4L.out]
  case n2 => unfold maxLen; omega
  case n3 => omega
  intro v1 w3 own3 grow3
  try simp only [Nat.zero_add, List.nil_append] at own3
  have hb3 : Below w2.heap.size w2 w3 := (Below.refl _ _).grown grow3 (Nat.le_refl _) (fun k h => by cases h)
  have s5 := (K5.out.below hb3).src
  rw [intsOf_vals] at s5
  have N5 := (K5.out.below hb3).hnil
  have hs3 := hb3.size
  have HB3 := hid hb3
  clear hb3 grow3 s4 N4
  go_wp2_with (at_builtin; go_must (refine wpList_append_any _ rfl (.tmp 49) (.tmp 50) 22 rfl w2.heap.size 3 i0 (.int .i64 0) 1 8 Try.underlying22 hi hz0 hz1 hz2 rfl (by decide) _ l4 (natInts SA) rfl own3 a5 l5 c5 (natInts SB) rfl ?n4 N5 s5 HO5.out ?n5 ?n6 hs3 ?_))
  case n4 => simp [natInts, H5L.out]
  case n5 => unfold maxLen; omega
  case n6 => omega
  intro v2 w4 own4 grow4
  have e1 : natInts SA ++ natInts SB = natInts (SA ++ SB) := by simp [natInts]
  rw [e1] at own4
  have B4 := hid (HB3.out.grown grow4 hs3 (fun k h => (own3.lt k h).1))
  obtain ⟨ao, cap, rfl, hI⟩ := own_ints own4 HABL.out
  obtain ⟨gP, oP, rfl, hgP, hcP⟩ := hI.hcell (by omega)
  have HI := hid hI
  have HCP := hid (fun i (hi : i < l4 + l5) => (by
    have h9 := hcP i hi
    have h8 : (intsOf (SA ++ SB)).getD i 0 = (((SA ++ SB).getD i 0 : Nat) : Int) := by
      have hl9 : i < (SA ++ SB).length := by rw [HABL.out]; exact hi
      unfold intsOf
      rw [List.getD, List.getD, List.getElem?_map, List.getElem?_eq_getElem hl9]
      rfl
    rw [h8] at h9
    exact h9 : w4.cell? ⟨gP, oP + i, none⟩ = some (.int .i64 (((SA ++ SB).getD i 0 : Nat) : Int))))
  have cm := hI.hcap
  have cm' := hI.hmax
  have NB := hid (rnumbers_any (some ⟨gP, oP, none⟩) (l4 + l5) cap l1 (intsOf (SA ++ SB)) w4 hI)
  rw [show intsOf (SA ++ SB) = (SA ++ SB).map fun (p : Nat) => (p : Int) from rfl, show l1 = zs.length from HLL.out.symm, HNUM.out, show zs.length = l1 from HLL.out] at NB
  have HT4 := hid (HT2.out.below B4.out hG2)
  have z0 := HT4.out.c0
  have z1 := HT4.out.c1
  have z2 := HT4.out.c2
  have K14 := hid (K1.out.below B4.out)
  have K24 := hid (K2.out.below B4.out)
  have K34 := hid (K3.out.below B4.out)
  have K54 := hid (K5.out.below B4.out)
  have HF4 := hid (HF2.out.below B4.out)
  have HBA := hid (HB2.out.trans (B4.out.mono (by omega)))
  have hG4 : w.heap.size < w4.heap.size := HT4.out.lt
  clear own3 own4 grow4 s5 N5 hI hcP e1 K1 K2 K3 K4 K5 HF2 HT2 HB2 HB3 B4 y0 y1 y2 hs3
  go_wp2_with fail
  refine NB.out.mono ?_
  rintro e w5 ⟨rfl, rfl⟩
  clear NB
  go_wp2_with fail
  have P0 := HCP.out 0 (by omega)
  rw [Nat.add_zero] at P0
  rw [show ((SA ++ SB).getD 0 0 : Nat) = (SA ++ SB).getD 0 0 from rfl] at P0
  obtain ⟨bS, oS, eS, hbS, hcS⟩ := K34.out.hcell (by omega)
  subst eS
  have HCS := hid hcS
  clear hcS
  have HV0 := hid (rfl : (SA ++ SB).getD 0 0 = (SA ++ SB).getD 0 0)
  go_loopw [14, 15] (fun b i wq => ∃ (k : Nat) (bv : Bool), k ≤ l3 ∧ i = .int .i64 k ∧ b = .bool bv ∧ Hid (Below w5.heap.size w5 wq) ∧ Hid (j0 < k → bv = true)) (fun _ i _ => l3 - (intOf i).toNat)
  case atStart => exact ⟨0, false, Nat.zero_le _, rfl, rfl, hid (Below.refl _ _), hid (fun h => by omega)⟩
  case round =>
    obtain ⟨k, bv, hk, rfl, rfl, HB, HK⟩ := hrel
    rename World => W0
    have z2' := (HB.out.cell (p := ⟨w.heap.size, 2, none⟩) hG4).trans z2
    have P0' := (HB.out.cell (p := ⟨gP, oP, none⟩) hgP).trans P0
    by_cases hlk : k < l3
    · have ck := (HB.out.cell (p := ⟨bS, oS + k, none⟩) hbS).trans (HCS.out k hlk)
      have HJK : Hid (j0 = k → ss.getD k 0 = (((SA ++ SB).getD 0 0 : Nat) : Int)) := hid (fun e => by rw [← e]; exact HJ0.out)
      have i1 : (0 : Int) ≤ (k : Int) := by omega
      have i2 : (k : Int) < (l3 : Int) := by omega
      have i3 : (0 : Int) < (l4 : Int) + (l5 : Int) := by omega
      generalize ss.getD k 0 = z at *
      cases bv with
      | true =>
        go_wp2_with fail
        go_quiet (fail)
        have HB2 := hid (below_drewN HB.out nq)
        go_wp2_with fail
        go_roundw
        case rel => exact ⟨k + 1, true, by omega, by go_num, rfl, HB2, hid (fun _ => rfl)⟩
        case measure => simp [intOf]; omega
      | false =>
        generalize (SA ++ SB).getD 0 0 = v0 at *
        have HKK : Hid (j0 < k + 1 → (z == (v0 : Int)) = true) := hid (fun h => by
          by_cases e : j0 = k
          · rw [HJK.out e]; simp
          · exact absurd (HK.out (by omega)) (by simp))
        go_wp2_with fail
        go_quiet (fail)
        have HB2 := hid (below_drewN HB.out nq)
        go_wp2_with fail
        go_roundw
        case rel => exact ⟨k + 1, (z == (v0 : Int)), by omega, by go_num, rfl, HB2, HKK⟩
        case measure => simp [intOf]; omega
    · obtain rfl : l3 = k := by omega
      obtain rfl : bv = true := HK.out hj0
      have x0 := (HB.out.cell (p := ⟨w.heap.size, 0, none⟩) hG4).trans z0
      have x1 := (HB.out.cell (p := ⟨w.heap.size, 1, none⟩) hG4).trans z1
      have x2 := (HB.out.cell (p := ⟨w.heap.size, 2, none⟩) hG4).trans z2
      have hs0 := HB.out.size
      have hG5 : w.heap.size < W0.heap.size := by omega
      have hgP5 : gP < W0.heap.size := by omega
      have M2 := hid (K24.out.below HB.out)
      have HPC := hid (fun i (hi : i < l4 + l5) => (HB.out.cell (p := ⟨gP, oP + i, none⟩) hgP).trans (HCP.out i hi))
      obtain ⟨bB, oB, eB, hbB, hcB⟩ := K54.out.hcell q1
      subst eB
      have cB := (HB.out.cell (p := ⟨bB, oB + 0, none⟩) hbB).trans (hcB 0 q1)
      rw [Nat.add_zero, show (intsOf SB).getD 0 0 = ((SB.headD 0 : Nat) : Int) by
        cases SB with
        | nil => rfl
        | cons y ys => rfl] at cB
      have hbB5 : bB < W0.heap.size := by omega
      obtain ⟨bL, oL, eL, hbL, hcL⟩ := K14.out.hcell (by omega)
      subst eL
      have hbL5 : bL < W0.heap.size := by omega
      have HCL := hid (fun i (hi : i < l1) => (by
        have h9 := (HB.out.cell (p := ⟨bL, oL + i, none⟩) hbL).trans (hcL i hi)
        have h8 := isL_iff.1 (allL_at HAL.out (j := i) (by rw [HLL.out]; exact hi))
        unfold gLt
        rw [Int.toNat_of_nonneg h8.1]
        exact h9 : W0.cell? ⟨bL, oL + i, none⟩ = some (.int .i64 ((gLt zs i : Nat) : Int))))
      have HF5 := hid (HF4.out.below HB.out)
      have HB5 := hid (HBA.out.trans (HB.out.mono (by omega)))
      clear hcB hcL K14 K24 K34 K54 HCS HCP HF4 HBA HK HB z0 z1 z2 z2' P0 P0' HJ0 HV0 hlk hk hj0
      generalize hGG : w.heap.size = G at *
      go_wp2_with fail
      go_loopw [16, 17] (fun v i wq => ∃ (k : Nat) (vL : Value), k ≤ l4 + l5 ∧ vL = v ∧ i = .int .i64 k ∧ Hid (wq.ownsRow W0.heap.size 3 1 v k (natInts (ltsTo (gLt zs) (SA ++ SB) k))) ∧ Hid (Below W0.heap.size W0 wq)) (fun _ i _ => l4 + l5 - (intOf i).toNat)
      case atStart => exact ⟨0, _, Nat.zero_le _, rfl, rfl, hid (World.ownsRow_nil _ _ _ _), hid (Below.refl _ _)⟩
      case round =>
        obtain ⟨k, vL, hk, rfl, rfl, HO, HB⟩ := hrel
        rename World => W1
        have hs1 := HB.out.size
        by_cases hlk : k < l4 + l5
        · have x0' := (HB.out.cell (p := ⟨G, 0, none⟩) hG5).trans x0
          have x1' := (HB.out.cell (p := ⟨G, 1, none⟩) hG5).trans x1
          have x2' := (HB.out.cell (p := ⟨G, 2, none⟩) hG5).trans x2
          have cB' := (HB.out.cell (p := ⟨bB, oB, none⟩) hbB5).trans cB
          have ck := (HB.out.cell (p := ⟨gP, oP + k, none⟩) hgP5).trans (HPC.out k hlk)
          have hlA : k < (SA ++ SB).length := by rw [HABL.out]; exact hlk
          have hx := HLT.out k hlA
          rw [HLL.out] at hx
          have hE := HED.out k hlA
          rw [HABL.out] at hE
          have HSU := hid (ltsTo_succ (lt := gLt zs) hlA)
          have cL := (HB.out.cell (p := ⟨bL, oL + (SA ++ SB).getD k 0, none⟩) hbL5).trans (HCL.out _ hx)
          have HCK2 : Hid (k + 1 < l4 + l5 → W1.cell? ⟨gP, oP + (k + 1), none⟩ = some (.int .i64 (((SA ++ SB).getD (k + 1) 0 : Nat) : Int))) := hid (fun h => (HB.out.cell (p := ⟨gP, oP + (k + 1), none⟩) hgP5).trans (HPC.out (k + 1) h))
          generalize hxx : (SA ++ SB).getD k 0 = x at *
          generalize hlx : gLt zs x = lx at *
          have HXX := hid hxx
          have HLX := hid hlx
          clear hxx hlx
          have i1 : (0 : Int) ≤ (k : Int) := by omega
          have i2 : (k : Int) < (l4 : Int) + (l5 : Int) := by omega
          have i3 : (0 : Int) < (l5 : Int) := by omega
          have i4 : (0 : Int) ≤ (x : Int) := by omega
          have i5 : (x : Int) < (l1 : Int) := by omega
          by_cases hn : k + 1 < l4 + l5
          · rw [if_pos hn] at hE
            have ck2 := HCK2.out hn
            generalize (SA ++ SB).getD (k + 1) 0 = y at *
            have RE := hid (redge_any (some ⟨bL, oL, none⟩) a2 (some ⟨bS, oS, none⟩) l1 c1 l1 c2 l3 c3 zss W1.drew x y (M2.out.below (below_drew1 HB.out)) hx)
            rw [hE] at RE
            have j1 : (0 : Int) ≤ (k : Int) + 1 := by omega
            have j2 : (k : Int) + 1 < (l4 : Int) + (l5 : Int) := by omega
            go_wp2_with fail
            go_region_with (go_at_call 50; go_must (refine RE.out.mono ?_; rintro e w7 ⟨rfl, b7⟩))
            all_goals
              have hb7 := below_undrew b7
              have HB7 := hid (HB.out.trans (hb7.mono hs1))
              have own7 := own_keeps HO.out hb7
              have HO7 := hid own7
              have x0'' := (HB7.out.cell (p := ⟨G, 0, none⟩) hG5).trans x0
              have ck'' := (HB7.out.cell (p := ⟨gP, oP + k, none⟩) hgP5).trans (HPC.out k hlk)
              rw [show (SA ++ SB).getD k 0 = x from HXX.out] at ck''
              have cL'' := (HB7.out.cell (p := ⟨bL, oL + x, none⟩) hbL5).trans (HCL.out x hx)
              rw [HLX.out] at cL''
              have hs7 := HB7.out.size
              clear b7 hb7 x0' x1' x2' cB' ck cL HO
              go_wp2_with fail
              go_region_law ((refine step_append_lies _ (by rfl) (.tmp 108) (.tmp 117) 22 (by rfl) W0.heap.size 3 i0 (.int .i64 0) 1 8 Try.underlying22 hi hz0 hz1 hz2 rfl (by decide) vL k (natInts (ltsTo (gLt zs) (SA ++ SB) k)) (by rfl) (own7.alloc _).drew ⟨w7.heap.size, 0, none⟩ 1 1 [.int .i64 lx] (by rfl) (by rfl) (World.news_of_block (cs := #[.int .i64 lx]) (t := 3) (fr := (0, 0)) (heap_alloc_last w7 _)) (by simp [Value.oneCell']) (by decide) (by unfold maxLen; omega) (by omega) (by simp; omega) _ rfl ?_; intro gg cc w8 hown hgrow hat hlt1))
              all_goals
                have bw8 : Below W0.heap.size w7 w8 := (below_drewN ((Below.refl W0.heap.size w7).alloc hs7 (.cells #[.int .i64 lx] 3)) 1).grown hgrow (by show W0.heap.size ≤ (w7.alloc (.cells #[.int .i64 lx] 3)).heap.size; rw [World.size_alloc]; omega) (fun k h => (own7.lt k h).1)
                have e1 : natInts (ltsTo (gLt zs) (SA ++ SB) k) ++ [.int .i64 (lx : Nat)] = natInts (ltsTo (gLt zs) (SA ++ SB) (k + 1)) := by rw [HSU.out]; simp [natInts]
                rw [e1] at hown
                have HO8 := hid hown
                have HB8 := hid (HB7.out.trans bw8)
                clear hown hgrow hat bw8 own7 HB7 HO7 e1
                go_wp2_with fail
                go_roundw
                case rel => exact ⟨k + 1, _, by omega, rfl, by go_num, HO8, HB8⟩
                case measure => simp [intOf]; omega
          · rw [if_neg hn] at hE
            generalize SB.headD 0 = y at *
            have RE := hid (redge_any (some ⟨bL, oL, none⟩) a2 (some ⟨bS, oS, none⟩) l1 c1 l1 c2 l3 c3 zss W1.drew x y (M2.out.below (below_drew1 HB.out)) hx)
            rw [hE] at RE
            have j2 : decide ((k : Int) + 1 < (l4 : Int) + (l5 : Int)) = false := by simp; omega
            go_wp2_with fail
            go_region_with (go_at_call 50; go_must (refine RE.out.mono ?_; rintro e w7 ⟨rfl, b7⟩))
            all_goals
              have hb7 := below_undrew b7
              have HB7 := hid (HB.out.trans (hb7.mono hs1))
              have own7 := own_keeps HO.out hb7
              have HO7 := hid own7
              have x0'' := (HB7.out.cell (p := ⟨G, 0, none⟩) hG5).trans x0
              have ck'' := (HB7.out.cell (p := ⟨gP, oP + k, none⟩) hgP5).trans (HPC.out k hlk)
              rw [show (SA ++ SB).getD k 0 = x from HXX.out] at ck''
              have cL'' := (HB7.out.cell (p := ⟨bL, oL + x, none⟩) hbL5).trans (HCL.out x hx)
              rw [HLX.out] at cL''
              have hs7 := HB7.out.size
              clear b7 hb7 x0' x1' x2' cB' ck cL HO
              go_wp2_with fail
              go_region_law ((refine step_append_lies _ (by rfl) (.tmp 108) (.tmp 117) 22 (by rfl) W0.heap.size 3 i0 (.int .i64 0) 1 8 Try.underlying22 hi hz0 hz1 hz2 rfl (by decide) vL k (natInts (ltsTo (gLt zs) (SA ++ SB) k)) (by rfl) (own7.alloc _).drew ⟨w7.heap.size, 0, none⟩ 1 1 [.int .i64 lx] (by rfl) (by rfl) (World.news_of_block (cs := #[.int .i64 lx]) (t := 3) (fr := (0, 0)) (heap_alloc_last w7 _)) (by simp [Value.oneCell']) (by decide) (by unfold maxLen; omega) (by omega) (by simp; omega) _ rfl ?_; intro gg cc w8 hown hgrow hat hlt1))
              all_goals
                have bw8 : Below W0.heap.size w7 w8 := (below_drewN ((Below.refl W0.heap.size w7).alloc hs7 (.cells #[.int .i64 lx] 3)) 1).grown hgrow (by show W0.heap.size ≤ (w7.alloc (.cells #[.int .i64 lx] 3)).heap.size; rw [World.size_alloc]; omega) (fun k h => (own7.lt k h).1)
                have e1 : natInts (ltsTo (gLt zs) (SA ++ SB) k) ++ [.int .i64 (lx : Nat)] = natInts (ltsTo (gLt zs) (SA ++ SB) (k + 1)) := by rw [HSU.out]; simp [natInts]
                rw [e1] at hown
                have HO8 := hid hown
                have HB8 := hid (HB7.out.trans bw8)
                clear hown hgrow hat bw8 own7 HB7 HO7 e1
                go_wp2_with fail
                go_roundw
                case rel => exact ⟨k + 1, _, by omega, rfl, by go_num, HO8, HB8⟩
                case measure => simp [intOf]; omega
        · obtain rfl : k = l4 + l5 := by omega
          have own9 := HO.out
          rw [← HABL.out, ltsTo_all, HABL.out, List.map_append] at own9
          obtain ⟨ao, capL, rfl, hIL⟩ := own_ints own9 (by rw [← List.map_append, List.length_map, HABL.out])
          obtain ⟨gR, oR, rfl, hgR, _⟩ := hIL.hcell (by omega)
          have hcL := hIL.hcap
          have hcL' := hIL.hmax
          have IA := ints_take hIL (n := l4) (by omega)
          have IB := ints_drop hIL (n := l4) (by omega)
          rw [intsOf_app, List.take_left' (by rw [intsOf_len, List.length_map, H4L.out])] at IA
          rw [intsOf_app, List.drop_left' (by rw [intsOf_len, List.length_map, H4L.out]), show l4 + l5 - l4 = l5 by omega] at IB
          have h8 : ∀ x ∈ SA ++ SB, gLt zs x < 8 := fun x hx => by
            have hx2 := HSS.out.lt_ x hx
            have h9 := isL_iff.1 (allL_at HAL.out (j := x) hx2)
            unfold gLt
            omega
          have OF := hid (of_wide (G + 1) ns bs (some ⟨gR, oR, none⟩) (some ⟨gR, oR + l4, none⟩) l4 capL l5 (capL - l4) (intsOf (SA.map (gLt zs))) (intsOf (SB.map (gLt zs))) W1.drew ((HF5.out.below HB.out).drew) GD.out
            ⟨by rw [intsOf_len, List.length_map, H5L.out]; exact q1, by rw [intsOf_len, intsOf_len, List.length_map, List.length_map, H4L.out, H5L.out]; exact q2,
              allL_ints (fun x hx => by obtain ⟨y, hy, rfl⟩ := List.mem_map.1 hx; exact h8 y (List.mem_append_left _ hy)),
              allL_ints (fun x hx => by obtain ⟨y, hy, rfl⟩ := List.mem_map.1 hx; exact h8 y (List.mem_append_right _ hy))⟩ IA.drew IB.drew)
          unfold OfPost at OF
          rw [← intsOf_app, natOf_ints, intsOf_len, List.length_map, ← List.map_append, HNOT.out] at OF
          have HBW := hid (HB5.out.trans (HB.out.mono (by omega)))
          have j1 : (0 : Int) ≤ (l4 : Int) := by omega
          have j2 : (l4 : Int) ≤ (capL : Int) := by omega
          have j3 : (l4 : Int) ≤ (l4 : Int) + (l5 : Int) := by omega
          have j4 : (l4 : Int) + (l5 : Int) ≤ (capL : Int) := by omega
          have j5 : ¬ capL = l4 := by omega
          have j6 : l4 < capL := by omega
          have hsW : G ≤ W1.heap.size := by omega
          clear own9 hIL IA IB h8 HO HB HF5
          go_wp2_with fail
          go_region_with (go_at_call 55; go_must (refine OF.out.mono ?_; rintro e w9 ⟨rfl, b9⟩))
          all_goals
            have HB9 := hid (HBW.out.trans ((below_undrew b9).mono hsW))
            clear b9
            go_wp2_with fail
            go_ret
            exact ⟨rfl, by rw [hGG]; exact HB9.out⟩

end
end Go.Proofs.Ytjagijohfkffiab

/- Plain mathematics: a stem and a loop of nodes is a path without end. -/
namespace Go.Proofs.Ytjagijohfkffiab
open Go.RowKit
set_option linter.unusedVariables false

theorem goes_split {E : Nat → Nat → Prop} : ∀ {l m : List Nat} {e : Nat}, Goes E (l ++ m) e → Goes E l (m.headD e) ∧ Goes E m e
  | [], m, e, h => ⟨trivial, h⟩
  | a :: l, m, e, ⟨h1, h2⟩ => by
    obtain ⟨h3, h4⟩ := goes_split h2
    refine ⟨⟨?_, h3⟩, h4⟩
    have h5 : E a ((l ++ m).headD e) := h1
    rw [headD_app] at h5
    exact h5

theorem gpath_of {n : Nat} {ed : Nat → Nat → Bool} {st : Nat → Bool} {SA SB : List Nat} (ne : SB ≠ []) (hlt : ∀ p ∈ SA ++ SB, p < n) (hbeg : st ((SA ++ SB).headD 0) = true) (hgo : Goes (fun a b => ed a b = true) (SA ++ SB) (SB.headD 0)) : GPath n ed st (rowAt SA SB) := by
  have hb : 0 < SB.length := List.length_pos_iff.2 ne
  obtain ⟨g1, g2⟩ := goes_split hgo
  have hh : SB.headD (SB.headD 0) = SB.headD 0 := by cases SB with
    | nil => rfl
    | cons b l => rfl
  rw [hh] at g1
  have hp := (rowAt_path (cs := []) g1 ⟨ne, rfl, g2, fun c hc => by cases hc⟩).1
  have hin : ∀ t, rowAt SA SB t ∈ SA ++ SB := fun t => by
    unfold rowAt
    by_cases c : t < SA.length
    · rw [if_pos c, List.getD, List.getElem?_eq_getElem c]
      exact List.mem_append_left _ (List.getElem_mem c)
    · have c2 : (t - SA.length) % SB.length < SB.length := Nat.mod_lt _ hb
      rw [if_neg c, List.getD, List.getElem?_eq_getElem c2]
      exact List.mem_append_right _ (List.getElem_mem c2)
  have h0 : rowAt SA SB 0 = (SA ++ SB).headD 0 := by
    unfold rowAt
    cases SA with
    | nil =>
      cases SB with
      | nil => simp at hb
      | cons b B => simp
    | cons a A => simp
  exact ⟨by rw [h0]; exact hbeg, fun t => ⟨hlt _ (hin t), hp t⟩⟩

theorem row_word {lt : Nat → Nat} {SA SB : List Nat} (hb : 0 < SB.length) : (fun t => lt (rowAt SA SB t)) = wordAt (SA.map lt) (SB.map lt) := by
  funext i
  unfold wordAt rowAt
  simp only [List.length_map]
  by_cases c : i < SA.length
  · rw [if_pos c, if_pos c]
    simp [List.getD, List.getElem?_eq_getElem c]
  · rw [if_neg c, if_neg c]
    have c2 : (i - SA.length) % SB.length < SB.length := Nat.mod_lt _ hb
    simp [List.getD, List.getElem?_eq_getElem c2]

theorem shows_not {ns : List Nd} {n : Nat} {lt : Nat → Nat} {ed : Nat → Nat → Bool} {st : Nat → Bool} {SA SB : List Nat} (h : ShowsP ns n lt ed st SA SB) : ¬ HoldsIn ns n lt ed st := fun hh => by
  have := hh _ (gpath_of h.ne h.lt_ h.begins h.go)
  rw [row_word (show_pos h)] at this
  exact h.sem_ this

end Go.Proofs.Ytjagijohfkffiab
