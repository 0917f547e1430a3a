import Derived.Test.YtjagijohfkffiabFOUM22
import Derived.Test.YtjagijohfkffiabFOUM26
import Derived.Test.YtjagijohfkffiabFOUM33
import Derived.Test.YtjagijohfkffiabFOUM34
import Derived.Test.YtjagijohfkffiabFOUM35

/- The walk of Found. (By gen_found.py.) -/
namespace Go.Proofs.Ytjagijohfkffiab
open Go.RowKit
set_option linter.unusedVariables false

theorem neg_not {ns : List Nd} {n : Nat} {lt : Nat → Nat} {ed : Nat → Nat → Bool} {st : Nat → Bool} {SA SB : List Nat} (hh : HoldsIn ns n lt ed st) (ne : SB ≠ []) (hlt : ∀ p ∈ SA ++ SB, p < n) (hbeg : st ((SA ++ SB).headD 0) = true) (hgo : Goes (fun a b => ed a b = true) (SA ++ SB) (SB.headD 0)) : ¬ HoldsIn (negN ns) n lt ed st := fun h => by
  have g := gpath_of ne hlt hbeg hgo
  exact (neg_sem _).1 (h _ g) (hh _ g)

theorem hv_shows {s : ByteArray} {n : Nat} {lt : Nat → Nat} {ed : Nat → Nat → Bool} {st : Nat → Bool} {SA SB : List Nat} (h0 : (parseOf s).1 = 0) (h : ShowsP (parseOf s).2 n lt ed st SA SB) (hlt : ∀ i, i < n → lt i < 8) : hv s (SA.map lt) (SB.map lt) = false := by
  unfold hv
  rw [if_pos h0, List.length_map, ← List.map_append]
  exact show_not (parse_good h0) h hlt
theorem hv_path {s : ByteArray} {n : Nat} {lt : Nat → Nat} {ed : Nat → Nat → Bool} {st : Nat → Bool} {SA SB : List Nat} (h0 : (parseOf s).1 = 0) (hh : HoldsIn (parseOf s).2 n lt ed st) (ne : SB ≠ []) (hlt : ∀ p ∈ SA ++ SB, p < n) (hbeg : st ((SA ++ SB).headD 0) = true) (hgo : Goes (fun a b => ed a b = true) (SA ++ SB) (SB.headD 0)) (h8 : ∀ i, i < n → lt i < 8) : hv s (SA.map lt) (SB.map lt) = true := by
  unfold hv
  rw [if_pos h0, List.length_map]
  exact holds_path (parse_good h0) hh ne hlt hbeg hgo h8

set_option maxHeartbeats 2000000 in
set_option maxRecDepth 100000 in
theorem found_core (s : ByteArray) (a1 a2 : Option Addr) (l1 c1 l2 c2 : Nat) (zr zw : List Int) (w : World) (hm : s.size ≤ maxLen) (h1 : Ints w a1 l1 c1 zr) (h2 : Ints w a2 l2 c2 zw) (f1 : Fits zr) (f2 : Fits zw) :
    Calls Try.prog 6 #[.string s, .slice a1 l1 c1, .slice a2 l2 c2] w fun e w' => e = .returned (.bool true) ∧ Below w.heap.size w w' := by
  have KG := hid (fun W (b : Below w.heap.size w W) => kgraph_any a1 l1 c1 zr W (h1.below b) f1)
  unfold GraphM at KG
  have m1 := h1.hcap
  have m2 := h1.hmax
  have n1 := h2.hcap
  have n2 := h2.hmax
  have SZ := hid (fun W => size_any s W hm)
  have HER : Hid ((parseOf s).1 ≠ 0 → (parseOf s).2.length = 0) := hid (fun h => by
    revert h
    unfold parseOf
    split
    · intro _; rfl
    · split
      · intro _; rfl
      · split
        · split
          · intro _; rfl
          · intro h; exact absurd rfl h
        · intro _; rfl)
  have HM := hid hm
  by_cases h20 : 20 < l2
  · obtain ⟨b2, o2, e2, hb2, hc2⟩ := h2.hcell (by omega)
    subst e2
    have HI2 := hid (ints_take h2 (n := 20) (by omega))
    have HFW : Hid (Fits (zw.take 20)) := hid (fun z hz => f2 z (List.mem_of_mem_take hz))
    have j1 : (20 : Int) < (l2 : Int) := by omega
    have j2 : (20 : Int) ≤ (c2 : Int) := by omega
    clear h1 h2 f1 f2 hc2 hb2 hm
    go_enter Try.func6, Try.ntmps6
    go_wp2_with fail
    refine (holding_any _).mono ?_
    rintro e w1 ⟨rfl, b1⟩
    go_wp2_with fail
    refine (checking_any _).mono ?_
    rintro e w2 ⟨rfl, b2⟩
    have HB2 := hid (b1.trans (b2.mono b1.size))
    clear b1 b2
    have hl20 : 20 ≤ 20 := by omega
    go_wp2_with fail
    refine (KG.out _ HB2.out).mono ?_
    rintro e w3 ⟨g1, kk1, q1, g2, kk2, q2, g3, kk3, q3, zs, zss, ss, rfl, I1, I2, I3, hG, b3⟩
    have B3 := hid (HB2.out.trans (b3.mono HB2.out.size))
    have ba := (Below.refl w3.heap.size w3).alloc (Nat.le_refl _) (.cells #[.slice g1 kk1 q1, .slice g2 kk2 q2, .slice g3 kk3 q3] 46)
    have T3 := hid (three_new w3 (.slice g1 kk1 q1) (.slice g2 kk2 q2) (.slice g3 kk3 q3) 46)
    have B4 := hid (B3.out.trans (ba.mono B3.out.size))
    have hzl := I1.hlen
    have gal : allL zs = true := by
      have h9 := hG
      unfold graphB at h9
      simp only [Bool.and_eq_true, decide_eq_true_eq] at h9
      exact h9.1.1.1.2
    have h8 : ∀ i, i < zs.length → gLt zs i < 8 := fun i hi => by
      have h9 := isL_iff.1 (allL_at gal (j := i) hi)
      unfold gLt
      omega
    have H8 := hid h8
    have HG := hid hG
    have HZL := hid hzl
    have HAL := hid gal
    have J1 := hid (I1.below ba)
    have J2 := hid (I2.below ba)
    have J3 := hid (I3.below ba)
    have J1c := I1.hcap
    have J1m := I1.hmax
    have J2c := I2.hcap
    have J2m := I2.hmax
    have J3c := I3.hcap
    have J3m := I3.hmax
    have CK := hid (check_any g1 g2 g3 kk1 q1 kk2 q2 kk3 q3 zs zss ss s _ HM.out (I1.below ba) (I2.below ba) (I3.below ba))
    unfold CheckedG at CK
    have hG3 : w3.heap.size < (w3.alloc (.cells #[.slice g1 kk1 q1, .slice g2 kk2 q2, .slice g3 kk3 q3] 46)).heap.size := by simp
    clear KG I1 I2 I3 b3 ba hG hzl gal h8 HB2 B3
    go_wp2_with fail
    refine CK.out.mono ?_
    rintro e w5 ⟨y, v1, v2, er, rfl, b5, -, h2', h3'⟩
    have HH2 := hid h2'
    have HH3 := hid h3'
    clear CK h2' h3'
    have B5 := hid (B4.out.trans (b5.mono B4.out.size))
    have HB5 := hid b5
    clear b5
    generalize hWW : (w3.alloc (.cells #[.slice g1 kk1 q1, .slice g2 kk2 q2, .slice g3 kk3 q3] 46)) = W4 at *
    clear hWW
    generalize w3.heap.size = G at *
    go_wp2_with fail
    refine (SZ.out _).mono ?_
    rintro e w6 ⟨rfl, b6⟩
    have HW6 := hid (B5.out.trans (b6.mono B5.out.size))
    have HB56 := hid b6
    have HB6 := hid (HB5.out.trans (b6.mono HB5.out.size))
    have T6 := T3.out.below HB6.out hG3
    have x0 := T6.c0
    have x1 := T6.c1
    have x2 := T6.c2
    have hs6 := HW6.out.size
    clear b6 SZ T6
    by_cases hp : (parseOf s).1 = 0
    · obtain ⟨rfl, hor⟩ := HH3.out HG.out hp
      have HP := hid hp
      have L1 := hid (J1.out.below HB6.out)
      have L2 := hid (J2.out.below HB6.out)
      have L3 := hid (J3.out.below HB6.out)
      rcases hor with ⟨rfl, rfl, rfl, hH⟩ | ⟨rfl, SA, SB, Bq, hS, oA, oB, hB2, hap⟩
      · have HHI := hid hH
        have WK := hid (walked_any g1 g2 g3 (some ⟨b2, o2, none⟩) kk1 q1 kk2 q2 kk3 q3 20 c2 zs zss ss (zw.take 20) w6 L2.out L3.out ((HI2).out.below HW6.out) HFW.out (by omega) HZL.out HG.out)
        unfold WalkedP at WK
        rw [hp]
        generalize hnn : (parseOf s).2.length = nn at *
        have HNN := hid hnn
        clear hnn hp hH HH2 HH3
        go_wp2_with fail
        refine WK.out.mono ?_
        rintro e w7 ⟨o1, d1, o2, d2, SA, SB, rfl, i1, i2, s1, s2, s3, s4, s5, s6, b7⟩
        have hpos : 0 < SB.length := List.length_pos_iff.2 s3
        have HNG := hid (neg_not HHI.out s3 s4 s5 s6)
        have HHV := hid (hv_path HP.out HHI.out s3 s4 s5 s6 H8.out)
        have HW7 := hid (HW6.out.trans (b7.mono HW6.out.size))
        have HB7 := hid (HB6.out.trans (b7.mono HB6.out.size))
        have XA8 : ∀ x ∈ SA.map (gLt zs), x < 8 := fun x hx => by
          obtain ⟨p, hp, rfl⟩ := List.mem_map.1 hx
          exact H8.out p (s4 p (List.mem_append_left _ hp))
        have XB8 : ∀ x ∈ SB.map (gLt zs), x < 8 := fun x hx => by
          obtain ⟨p, hp, rfl⟩ := List.mem_map.1 hx
          exact H8.out p (s4 p (List.mem_append_right _ hp))
        have KL1 := hid (kletters_any g1 g2 g3 kk1 q1 kk2 q2 kk3 q3 zs w7.drew o1 SA.length d1 SA (L1.out.below b7).drew i1.drew HAL.out (fun x hx => by rw [← HZL.out]; exact s4 x (List.mem_append_left _ hx)) (by omega))
        have KL2 := hid (fun W (b : Below w7.heap.size w7 W) => kletters_any g1 g2 g3 kk1 q1 kk2 q2 kk3 q3 zs W o2 SB.length d2 SB ((L1.out.below b7).below b) (i2.below b) HAL.out (fun x hx => by rw [← HZL.out]; exact s4 x (List.mem_append_right _ hx)) (by omega))
        have KH := hid (fun W oj cj ok ck (i1 : Ints W oj (SA.map (gLt zs)).length cj (intsOf (SA.map (gLt zs)))) (i2 : Ints W ok (SB.map (gLt zs)).length ck (intsOf (SB.map (gLt zs)))) => holdsW s HM.out oj ok _ cj _ ck (SA.map (gLt zs)) (SB.map (gLt zs)) W i1 i2 XA8 XB8 (by rw [List.length_map]; exact hpos) (by rw [List.length_map]; exact s1) (by rw [List.length_map]; exact s2))
        unfold Made at KL1 KL2
        rw [HHV.out, HP.out] at KH
        have T7 := T3.out.below HB7.out hG3
        have y0 := T7.c0
        have y1 := T7.c1
        have y2 := T7.c2
        have hG7 := T7.lt
        have hs7 := HW7.out.size
        have M1 := hid (L1.out.below b7)
        have M2 := hid (L2.out.below b7)
        have M3 := hid (L3.out.below b7)
        clear WK i1 i2 s3 s4 s5 s6 b7 x0 x1 x2 XA8 XB8 T7 HHI L1 L2 L3
        generalize SA.map (gLt zs) = XA at *
        generalize SB.map (gLt zs) = XB at *
        generalize SA.length = la at *
        generalize SB.length = lb at *
        have e0 : ((lb : Int) == 0) = false := beq_eq_false_iff_ne.2 (by omega)
        go_wp2_with fail
        go_region_with (first
          | (go_at_call_of 28 (Value.slice o1 la d1); go_must (refine KL1.out.mono ?_; rintro e w9 ⟨oj, cj, rfl, ij, b9⟩; have hb9 := below_undrew b9; clear b9; have s0 := (hb9.cell (p := ⟨G, 0, none⟩) hG7).trans y0; have s1' := (hb9.cell (p := ⟨G, 1, none⟩) hG7).trans y1; have s2' := (hb9.cell (p := ⟨G, 2, none⟩) hG7).trans y2))
          | (go_at_call_of 28 (Value.slice o2 lb d2); go_must (refine (KL2.out w9 hb9).mono ?_; rintro e w10 ⟨ok, ck, rfl, ik, b10⟩))
          | (go_at_call 19; go_must (refine (KH.out w10 oj cj ok ck (ij.below b10) ik).mono ?_; rintro e w11 ⟨rfl, b11⟩)))
        all_goals
          have b11' := hb9.trans ((b10.trans (b11.mono b10.size)).mono hb9.size)
          have HB11 := hid (HW7.out.trans (b11'.mono hs7))
          have HBG := hid (HB7.out.trans (b11'.mono HB7.out.size))
          have T11 := T3.out.below HBG.out hG3
          have u0 := T11.c0
          have u1 := T11.c1
          have u2 := T11.c2
          have N1 := hid (M1.out.below b11')
          have N2 := hid (M2.out.below b11')
          have N3 := hid (M3.out.below b11')
          clear KL1 KL2 KH ij ik hb9 b10 b11 b11' y0 y1 y2 T11 M1 M2 M3
          by_cases e1 : 8 ≤ nn
          · have k1 : (8 : Int) ≤ (nn : Int) := by omega
            go_wp2_with fail
            go_ret
            exact ⟨rfl, HB11.out⟩
          · have k1 : decide ((8 : Int) ≤ (nn : Int)) = false := by simp; omega
            have k1n : decide (8 ≤ nn) = false := by simp; omega
            by_cases e2 : 24 ≤ s.size
            · have k2 : (24 : Int) ≤ (s.size : Int) := by omega
              go_wp2_with fail
              go_ret
              exact ⟨rfl, HB11.out⟩
            · have k2 : decide ((24 : Int) ≤ (s.size : Int)) = false := by simp; omega
              have k2n : decide (24 ≤ s.size) = false := by simp; omega
              have hpn : parseOf (⟨#[33]⟩ ++ s) = (0, negN (parseOf s).2) := parse_neg HP.out (by rw [HNN.out]; omega) (by omega)
              have hmn : (⟨#[33]⟩ ++ s : ByteArray).size ≤ maxLen := by
                have := negT_size s
                unfold negT at this
                rw [this]
                unfold maxLen
                omega
              have CN := hid (check_any g1 g2 g3 kk1 q1 kk2 q2 kk3 q3 zs zss ss (⟨#[33]⟩ ++ s) w11 hmn N1.out N2.out N3.out)
              unfold CheckedG at CN
              rw [hpn] at CN
              clear hpn hmn
              go_wp2_with fail
              refine CN.out.mono ?_
              rintro e w12 ⟨y', v1', v2', er', rfl, b12, -, -, h3n⟩
              obtain ⟨rfl, horn⟩ := h3n HG.out (by first | rfl | trivial)
              obtain rfl : y' = false := by
                rcases horn with ⟨_, _, _, hq⟩ | ⟨hq, _⟩
                · exact absurd hq HNG.out
                · exact hq
              have HB12 := hid (HB11.out.trans (b12.mono HB11.out.size))
              clear b12 h3n horn CN
              go_wp2_with fail
              go_ret
              exact ⟨rfl, HB12.out⟩
      · obtain ⟨a4, k4, rfl, I4⟩ := own_ints oA rfl
        obtain ⟨a5, k5, rfl, I5⟩ := own_ints oB rfl
        have hpos := show_pos hS
        have hlen := hS.len
        have I46 := I4.below HB56.out
        have I56 := I5.below HB56.out
        have KP := hid (kpath_any g1 g2 g3 a4 a5 kk1 q1 kk2 q2 kk3 q3 SA.length k4 SB.length k5 _ zs zss ss SA SB w6 L1.out L2.out L3.out I46 I56 HG.out hS)
        have HHV := hid (hv_shows HP.out hS H8.out)
        have XA8 : ∀ x ∈ SA.map (gLt zs), x < 8 := fun x hx => by
          obtain ⟨p, hp, rfl⟩ := List.mem_map.1 hx
          exact H8.out p (hS.lt_ p (List.mem_append_left _ hp))
        have XB8 : ∀ x ∈ SB.map (gLt zs), x < 8 := fun x hx => by
          obtain ⟨p, hp, rfl⟩ := List.mem_map.1 hx
          exact H8.out p (hS.lt_ p (List.mem_append_right _ hp))
        have KL1 := hid (fun W (b : Below w6.heap.size w6 W) => kletters_any g1 g2 g3 kk1 q1 kk2 q2 kk3 q3 zs W a4 SA.length k4 SA (L1.out.below b) (I46.below b) HAL.out (fun x hx => by rw [← HZL.out]; exact hS.lt_ x (List.mem_append_left _ hx)) (by omega))
        have KL2 := hid (fun W (b : Below w6.heap.size w6 W) => kletters_any g1 g2 g3 kk1 q1 kk2 q2 kk3 q3 zs W a5 SB.length k5 SB (L1.out.below b) (I56.below b) HAL.out (fun x hx => by rw [← HZL.out]; exact hS.lt_ x (List.mem_append_right _ hx)) (by omega))
        have KH := hid (fun (e1 : SA.length ≤ 40) (e2 : SB.length ≤ 40) W oj cj ok ck (i1 : Ints W oj (SA.map (gLt zs)).length cj (intsOf (SA.map (gLt zs)))) (i2 : Ints W ok (SB.map (gLt zs)).length ck (intsOf (SB.map (gLt zs)))) => holdsW s HM.out oj ok _ cj _ ck (SA.map (gLt zs)) (SB.map (gLt zs)) W i1 i2 XA8 XB8 (by rw [List.length_map]; exact hpos) (by rw [List.length_map]; exact e1) (by rw [List.length_map]; exact e2))
        unfold Made at KL1 KL2
        rw [HHV.out, HP.out] at KH
        have m4 := I4.hcap
        have m5 := I4.hmax
        have m6 := I5.hcap
        have m7 := I5.hmax
        rw [hp]
        clear hp HH2 HH3 hS oA oB hB2 hap I4 I5 I46 I56 XA8 XB8
        generalize SA.map (gLt zs) = XA at *
        generalize SB.map (gLt zs) = XB at *
        generalize SA.length = la at *
        generalize SB.length = lb at *
        generalize (parseOf s).2.length = nn at *
        go_wp2_with fail
        refine KP.out.mono ?_
        rintro e w7 ⟨rfl, b7⟩
        have HW7 := hid (HW6.out.trans (b7.mono HW6.out.size))
        have HB7 := hid (HB6.out.trans (b7.mono HB6.out.size))
        have T7 := T3.out.below HB7.out hG3
        have y0 := T7.c0
        have y1 := T7.c1
        have y2 := T7.c2
        have hG7 := T7.lt
        have hs7 := HW7.out.size
        have HQ7 := hid b7
        clear KP b7 x0 x1 x2 T7
        by_cases e1 : la ≤ 40
        · have k1 : (la : Int) ≤ 40 := by omega
          by_cases e2 : lb ≤ 40
          · have k2 : (lb : Int) ≤ 40 := by omega
            have KL1' := hid (KL1.out w7.drew (below_drew1 HQ7.out))
            have KL2' := hid (fun W (b : Below w7.heap.size w7 W) => KL2.out W (HQ7.out.trans (b.mono HQ7.out.size)))
            have KH' := hid (KH.out e1 e2)
            clear KL1 KL2 KH
            go_wp2_with fail
            go_region_with (first
              | (go_at_call_of 28 (Value.slice a4 la k4); go_must (refine KL1'.out.mono ?_; rintro e w9 ⟨oj, cj, rfl, ij, b9⟩; have hb9 := below_undrew b9; clear b9; have s0 := (hb9.cell (p := ⟨G, 0, none⟩) hG7).trans y0; have s1' := (hb9.cell (p := ⟨G, 1, none⟩) hG7).trans y1; have s2' := (hb9.cell (p := ⟨G, 2, none⟩) hG7).trans y2))
              | (go_at_call_of 28 (Value.slice a5 lb k5); go_must (refine (KL2'.out w9 hb9).mono ?_; rintro e w10 ⟨ok, ck, rfl, ik, b10⟩))
              | (go_at_call 19; go_must (refine (KH'.out w10 oj cj ok ck (ij.below b10) ik).mono ?_; rintro e w11 ⟨rfl, b11⟩)))
            all_goals
              have b11' := hb9.trans ((b10.trans (b11.mono b10.size)).mono hb9.size)
              have HB11 := hid (HW7.out.trans (b11'.mono hs7))
              clear KL1' KL2' KH' ij ik hb9 b10 b11 b11' y0 y1 y2
              go_wp2_with fail
              go_ret
              exact ⟨rfl, HB11.out⟩
          · have k2 : decide ((lb : Int) ≤ 40) = false := by simp; omega
            have k2n : decide (lb ≤ 40) = false := by simp; omega
            go_wp2_with fail
            go_ret
            exact ⟨rfl, HW7.out⟩
        · have k1 : decide ((la : Int) ≤ 40) = false := by simp; omega
          have k1n : decide (la ≤ 40) = false := by simp; omega
          go_wp2_with fail
          go_ret
          exact ⟨rfl, HW7.out⟩
    · obtain ⟨rfl, rfl, rfl, rfl⟩ := HH2.out HG.out hp
      have hn0 := HER.out hp
      generalize (parseOf s).1 = er at *
      generalize (parseOf s).2.length = nn at *
      have ke : ((er : Int) != 0) = true := by rw [bne_iff_ne]; omega
      have ke2 : ((er : Int) != (er : Int)) = false := by simp
      clear HH2 HH3 hp hn0
      go_wp2_with fail
      go_ret
      exact ⟨rfl, HW6.out⟩
  · have j1 : decide ((20 : Int) < (l2 : Int)) = false := by simp; omega
    have j1n : decide (20 < l2) = false := by simp; omega
    have HI2 := hid h2
    have HFW := hid f2
    clear h1 h2 f1 f2 hm
    go_enter Try.func6, Try.ntmps6
    go_wp2_with fail
    refine (holding_any _).mono ?_
    rintro e w1 ⟨rfl, b1⟩
    go_wp2_with fail
    refine (checking_any _).mono ?_
    rintro e w2 ⟨rfl, b2⟩
    have HB2 := hid (b1.trans (b2.mono b1.size))
    clear b1 b2
    have hl20 : l2 ≤ 20 := by omega
    go_wp2_with fail
    refine (KG.out _ HB2.out).mono ?_
    rintro e w3 ⟨g1, kk1, q1, g2, kk2, q2, g3, kk3, q3, zs, zss, ss, rfl, I1, I2, I3, hG, b3⟩
    have B3 := hid (HB2.out.trans (b3.mono HB2.out.size))
    have ba := (Below.refl w3.heap.size w3).alloc (Nat.le_refl _) (.cells #[.slice g1 kk1 q1, .slice g2 kk2 q2, .slice g3 kk3 q3] 46)
    have T3 := hid (three_new w3 (.slice g1 kk1 q1) (.slice g2 kk2 q2) (.slice g3 kk3 q3) 46)
    have B4 := hid (B3.out.trans (ba.mono B3.out.size))
    have hzl := I1.hlen
    have gal : allL zs = true := by
      have h9 := hG
      unfold graphB at h9
      simp only [Bool.and_eq_true, decide_eq_true_eq] at h9
      exact h9.1.1.1.2
    have h8 : ∀ i, i < zs.length → gLt zs i < 8 := fun i hi => by
      have h9 := isL_iff.1 (allL_at gal (j := i) hi)
      unfold gLt
      omega
    have H8 := hid h8
    have HG := hid hG
    have HZL := hid hzl
    have HAL := hid gal
    have J1 := hid (I1.below ba)
    have J2 := hid (I2.below ba)
    have J3 := hid (I3.below ba)
    have J1c := I1.hcap
    have J1m := I1.hmax
    have J2c := I2.hcap
    have J2m := I2.hmax
    have J3c := I3.hcap
    have J3m := I3.hmax
    have CK := hid (check_any g1 g2 g3 kk1 q1 kk2 q2 kk3 q3 zs zss ss s _ HM.out (I1.below ba) (I2.below ba) (I3.below ba))
    unfold CheckedG at CK
    have hG3 : w3.heap.size < (w3.alloc (.cells #[.slice g1 kk1 q1, .slice g2 kk2 q2, .slice g3 kk3 q3] 46)).heap.size := by simp
    clear KG I1 I2 I3 b3 ba hG hzl gal h8 HB2 B3
    go_wp2_with fail
    refine CK.out.mono ?_
    rintro e w5 ⟨y, v1, v2, er, rfl, b5, -, h2', h3'⟩
    have HH2 := hid h2'
    have HH3 := hid h3'
    clear CK h2' h3'
    have B5 := hid (B4.out.trans (b5.mono B4.out.size))
    have HB5 := hid b5
    clear b5
    generalize hWW : (w3.alloc (.cells #[.slice g1 kk1 q1, .slice g2 kk2 q2, .slice g3 kk3 q3] 46)) = W4 at *
    clear hWW
    generalize w3.heap.size = G at *
    go_wp2_with fail
    refine (SZ.out _).mono ?_
    rintro e w6 ⟨rfl, b6⟩
    have HW6 := hid (B5.out.trans (b6.mono B5.out.size))
    have HB56 := hid b6
    have HB6 := hid (HB5.out.trans (b6.mono HB5.out.size))
    have T6 := T3.out.below HB6.out hG3
    have x0 := T6.c0
    have x1 := T6.c1
    have x2 := T6.c2
    have hs6 := HW6.out.size
    clear b6 SZ T6
    by_cases hp : (parseOf s).1 = 0
    · obtain ⟨rfl, hor⟩ := HH3.out HG.out hp
      have HP := hid hp
      have L1 := hid (J1.out.below HB6.out)
      have L2 := hid (J2.out.below HB6.out)
      have L3 := hid (J3.out.below HB6.out)
      rcases hor with ⟨rfl, rfl, rfl, hH⟩ | ⟨rfl, SA, SB, Bq, hS, oA, oB, hB2, hap⟩
      · have HHI := hid hH
        have WK := hid (walked_any g1 g2 g3 a2 kk1 q1 kk2 q2 kk3 q3 l2 c2 zs zss ss zw w6 L2.out L3.out ((HI2).out.below HW6.out) HFW.out (by omega) HZL.out HG.out)
        unfold WalkedP at WK
        rw [hp]
        generalize hnn : (parseOf s).2.length = nn at *
        have HNN := hid hnn
        clear hnn hp hH HH2 HH3
        go_wp2_with fail
        refine WK.out.mono ?_
        rintro e w7 ⟨o1, d1, o2, d2, SA, SB, rfl, i1, i2, s1, s2, s3, s4, s5, s6, b7⟩
        have hpos : 0 < SB.length := List.length_pos_iff.2 s3
        have HNG := hid (neg_not HHI.out s3 s4 s5 s6)
        have HHV := hid (hv_path HP.out HHI.out s3 s4 s5 s6 H8.out)
        have HW7 := hid (HW6.out.trans (b7.mono HW6.out.size))
        have HB7 := hid (HB6.out.trans (b7.mono HB6.out.size))
        have XA8 : ∀ x ∈ SA.map (gLt zs), x < 8 := fun x hx => by
          obtain ⟨p, hp, rfl⟩ := List.mem_map.1 hx
          exact H8.out p (s4 p (List.mem_append_left _ hp))
        have XB8 : ∀ x ∈ SB.map (gLt zs), x < 8 := fun x hx => by
          obtain ⟨p, hp, rfl⟩ := List.mem_map.1 hx
          exact H8.out p (s4 p (List.mem_append_right _ hp))
        have KL1 := hid (kletters_any g1 g2 g3 kk1 q1 kk2 q2 kk3 q3 zs w7.drew o1 SA.length d1 SA (L1.out.below b7).drew i1.drew HAL.out (fun x hx => by rw [← HZL.out]; exact s4 x (List.mem_append_left _ hx)) (by omega))
        have KL2 := hid (fun W (b : Below w7.heap.size w7 W) => kletters_any g1 g2 g3 kk1 q1 kk2 q2 kk3 q3 zs W o2 SB.length d2 SB ((L1.out.below b7).below b) (i2.below b) HAL.out (fun x hx => by rw [← HZL.out]; exact s4 x (List.mem_append_right _ hx)) (by omega))
        have KH := hid (fun W oj cj ok ck (i1 : Ints W oj (SA.map (gLt zs)).length cj (intsOf (SA.map (gLt zs)))) (i2 : Ints W ok (SB.map (gLt zs)).length ck (intsOf (SB.map (gLt zs)))) => holdsW s HM.out oj ok _ cj _ ck (SA.map (gLt zs)) (SB.map (gLt zs)) W i1 i2 XA8 XB8 (by rw [List.length_map]; exact hpos) (by rw [List.length_map]; exact s1) (by rw [List.length_map]; exact s2))
        unfold Made at KL1 KL2
        rw [HHV.out, HP.out] at KH
        have T7 := T3.out.below HB7.out hG3
        have y0 := T7.c0
        have y1 := T7.c1
        have y2 := T7.c2
        have hG7 := T7.lt
        have hs7 := HW7.out.size
        have M1 := hid (L1.out.below b7)
        have M2 := hid (L2.out.below b7)
        have M3 := hid (L3.out.below b7)
        clear WK i1 i2 s3 s4 s5 s6 b7 x0 x1 x2 XA8 XB8 T7 HHI L1 L2 L3
        generalize SA.map (gLt zs) = XA at *
        generalize SB.map (gLt zs) = XB at *
        generalize SA.length = la at *
        generalize SB.length = lb at *
        have e0 : ((lb : Int) == 0) = false := beq_eq_false_iff_ne.2 (by omega)
        go_wp2_with fail
        go_region_with (first
          | (go_at_call_of 28 (Value.slice o1 la d1); go_must (refine KL1.out.mono ?_; rintro e w9 ⟨oj, cj, rfl, ij, b9⟩; have hb9 := below_undrew b9; clear b9; have s0 := (hb9.cell (p := ⟨G, 0, none⟩) hG7).trans y0; have s1' := (hb9.cell (p := ⟨G, 1, none⟩) hG7).trans y1; have s2' := (hb9.cell (p := ⟨G, 2, none⟩) hG7).trans y2))
          | (go_at_call_of 28 (Value.slice o2 lb d2); go_must (refine (KL2.out w9 hb9).mono ?_; rintro e w10 ⟨ok, ck, rfl, ik, b10⟩))
          | (go_at_call 19; go_must (refine (KH.out w10 oj cj ok ck (ij.below b10) ik).mono ?_; rintro e w11 ⟨rfl, b11⟩)))
        all_goals
          have b11' := hb9.trans ((b10.trans (b11.mono b10.size)).mono hb9.size)
          have HB11 := hid (HW7.out.trans (b11'.mono hs7))
          have HBG := hid (HB7.out.trans (b11'.mono HB7.out.size))
          have T11 := T3.out.below HBG.out hG3
          have u0 := T11.c0
          have u1 := T11.c1
          have u2 := T11.c2
          have N1 := hid (M1.out.below b11')
          have N2 := hid (M2.out.below b11')
          have N3 := hid (M3.out.below b11')
          clear KL1 KL2 KH ij ik hb9 b10 b11 b11' y0 y1 y2 T11 M1 M2 M3
          by_cases e1 : 8 ≤ nn
          · have k1 : (8 : Int) ≤ (nn : Int) := by omega
            go_wp2_with fail
            go_ret
            exact ⟨rfl, HB11.out⟩
          · have k1 : decide ((8 : Int) ≤ (nn : Int)) = false := by simp; omega
            have k1n : decide (8 ≤ nn) = false := by simp; omega
            by_cases e2 : 24 ≤ s.size
            · have k2 : (24 : Int) ≤ (s.size : Int) := by omega
              go_wp2_with fail
              go_ret
              exact ⟨rfl, HB11.out⟩
            · have k2 : decide ((24 : Int) ≤ (s.size : Int)) = false := by simp; omega
              have k2n : decide (24 ≤ s.size) = false := by simp; omega
              have hpn : parseOf (⟨#[33]⟩ ++ s) = (0, negN (parseOf s).2) := parse_neg HP.out (by rw [HNN.out]; omega) (by omega)
              have hmn : (⟨#[33]⟩ ++ s : ByteArray).size ≤ maxLen := by
                have := negT_size s
                unfold negT at this
                rw [this]
                unfold maxLen
                omega
              have CN := hid (check_any g1 g2 g3 kk1 q1 kk2 q2 kk3 q3 zs zss ss (⟨#[33]⟩ ++ s) w11 hmn N1.out N2.out N3.out)
              unfold CheckedG at CN
              rw [hpn] at CN
              clear hpn hmn
              go_wp2_with fail
              refine CN.out.mono ?_
              rintro e w12 ⟨y', v1', v2', er', rfl, b12, -, -, h3n⟩
              obtain ⟨rfl, horn⟩ := h3n HG.out (by first | rfl | trivial)
              obtain rfl : y' = false := by
                rcases horn with ⟨_, _, _, hq⟩ | ⟨hq, _⟩
                · exact absurd hq HNG.out
                · exact hq
              have HB12 := hid (HB11.out.trans (b12.mono HB11.out.size))
              clear b12 h3n horn CN
              go_wp2_with fail
              go_ret
              exact ⟨rfl, HB12.out⟩
      · obtain ⟨a4, k4, rfl, I4⟩ := own_ints oA rfl
        obtain ⟨a5, k5, rfl, I5⟩ := own_ints oB rfl
        have hpos := show_pos hS
        have hlen := hS.len
        have I46 := I4.below HB56.out
        have I56 := I5.below HB56.out
        have KP := hid (kpath_any g1 g2 g3 a4 a5 kk1 q1 kk2 q2 kk3 q3 SA.length k4 SB.length k5 _ zs zss ss SA SB w6 L1.out L2.out L3.out I46 I56 HG.out hS)
        have HHV := hid (hv_shows HP.out hS H8.out)
        have XA8 : ∀ x ∈ SA.map (gLt zs), x < 8 := fun x hx => by
          obtain ⟨p, hp, rfl⟩ := List.mem_map.1 hx
          exact H8.out p (hS.lt_ p (List.mem_append_left _ hp))
        have XB8 : ∀ x ∈ SB.map (gLt zs), x < 8 := fun x hx => by
          obtain ⟨p, hp, rfl⟩ := List.mem_map.1 hx
          exact H8.out p (hS.lt_ p (List.mem_append_right _ hp))
        have KL1 := hid (fun W (b : Below w6.heap.size w6 W) => kletters_any g1 g2 g3 kk1 q1 kk2 q2 kk3 q3 zs W a4 SA.length k4 SA (L1.out.below b) (I46.below b) HAL.out (fun x hx => by rw [← HZL.out]; exact hS.lt_ x (List.mem_append_left _ hx)) (by omega))
        have KL2 := hid (fun W (b : Below w6.heap.size w6 W) => kletters_any g1 g2 g3 kk1 q1 kk2 q2 kk3 q3 zs W a5 SB.length k5 SB (L1.out.below b) (I56.below b) HAL.out (fun x hx => by rw [← HZL.out]; exact hS.lt_ x (List.mem_append_right _ hx)) (by omega))
        have KH := hid (fun (e1 : SA.length ≤ 40) (e2 : SB.length ≤ 40) W oj cj ok ck (i1 : Ints W oj (SA.map (gLt zs)).length cj (intsOf (SA.map (gLt zs)))) (i2 : Ints W ok (SB.map (gLt zs)).length ck (intsOf (SB.map (gLt zs)))) => holdsW s HM.out oj ok _ cj _ ck (SA.map (gLt zs)) (SB.map (gLt zs)) W i1 i2 XA8 XB8 (by rw [List.length_map]; exact hpos) (by rw [List.length_map]; exact e1) (by rw [List.length_map]; exact e2))
        unfold Made at KL1 KL2
        rw [HHV.out, HP.out] at KH
        have m4 := I4.hcap
        have m5 := I4.hmax
        have m6 := I5.hcap
        have m7 := I5.hmax
        rw [hp]
        clear hp HH2 HH3 hS oA oB hB2 hap I4 I5 I46 I56 XA8 XB8
        generalize SA.map (gLt zs) = XA at *
        generalize SB.map (gLt zs) = XB at *
        generalize SA.length = la at *
        generalize SB.length = lb at *
        generalize (parseOf s).2.length = nn at *
        go_wp2_with fail
        refine KP.out.mono ?_
        rintro e w7 ⟨rfl, b7⟩
        have HW7 := hid (HW6.out.trans (b7.mono HW6.out.size))
        have HB7 := hid (HB6.out.trans (b7.mono HB6.out.size))
        have T7 := T3.out.below HB7.out hG3
        have y0 := T7.c0
        have y1 := T7.c1
        have y2 := T7.c2
        have hG7 := T7.lt
        have hs7 := HW7.out.size
        have HQ7 := hid b7
        clear KP b7 x0 x1 x2 T7
        by_cases e1 : la ≤ 40
        · have k1 : (la : Int) ≤ 40 := by omega
          by_cases e2 : lb ≤ 40
          · have k2 : (lb : Int) ≤ 40 := by omega
            have KL1' := hid (KL1.out w7.drew (below_drew1 HQ7.out))
            have KL2' := hid (fun W (b : Below w7.heap.size w7 W) => KL2.out W (HQ7.out.trans (b.mono HQ7.out.size)))
            have KH' := hid (KH.out e1 e2)
            clear KL1 KL2 KH
            go_wp2_with fail
            go_region_with (first
              | (go_at_call_of 28 (Value.slice a4 la k4); go_must (refine KL1'.out.mono ?_; rintro e w9 ⟨oj, cj, rfl, ij, b9⟩; have hb9 := below_undrew b9; clear b9; have s0 := (hb9.cell (p := ⟨G, 0, none⟩) hG7).trans y0; have s1' := (hb9.cell (p := ⟨G, 1, none⟩) hG7).trans y1; have s2' := (hb9.cell (p := ⟨G, 2, none⟩) hG7).trans y2))
              | (go_at_call_of 28 (Value.slice a5 lb k5); go_must (refine (KL2'.out w9 hb9).mono ?_; rintro e w10 ⟨ok, ck, rfl, ik, b10⟩))
              | (go_at_call 19; go_must (refine (KH'.out w10 oj cj ok ck (ij.below b10) ik).mono ?_; rintro e w11 ⟨rfl, b11⟩)))
            all_goals
              have b11' := hb9.trans ((b10.trans (b11.mono b10.size)).mono hb9.size)
              have HB11 := hid (HW7.out.trans (b11'.mono hs7))
              clear KL1' KL2' KH' ij ik hb9 b10 b11 b11' y0 y1 y2
              go_wp2_with fail
              go_ret
              exact ⟨rfl, HB11.out⟩
          · have k2 : decide ((lb : Int) ≤ 40) = false := by simp; omega
            have k2n : decide (lb ≤ 40) = false := by simp; omega
            go_wp2_with fail
            go_ret
            exact ⟨rfl, HW7.out⟩
        · have k1 : decide ((la : Int) ≤ 40) = false := by simp; omega
          have k1n : decide (la ≤ 40) = false := by simp; omega
          go_wp2_with fail
          go_ret
          exact ⟨rfl, HW7.out⟩
    · obtain ⟨rfl, rfl, rfl, rfl⟩ := HH2.out HG.out hp
      have hn0 := HER.out hp
      generalize (parseOf s).1 = er at *
      generalize (parseOf s).2.length = nn at *
      have ke : ((er : Int) != 0) = true := by rw [bne_iff_ne]; omega
      have ke2 : ((er : Int) != (er : Int)) = false := by simp
      clear HH2 HH3 hp hn0
      go_wp2_with fail
      go_ret
      exact ⟨rfl, HW6.out⟩

end Go.Proofs.Ytjagijohfkffiab
