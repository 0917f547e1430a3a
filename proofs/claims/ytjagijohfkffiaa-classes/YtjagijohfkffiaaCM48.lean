import Derived.Test.YtjagijohfkffiaaCM47
import Derived.BigQuiet

/- The walk of the reference's slips. -/
namespace Go.Proofs.Ytjagijohfkffiaa
open Go.RowKit
set_option linter.unusedVariables false

def slJ (ns : List Nd) (vs : List Nat) (out : Nat → Nat) (nx : Nat → Nat → Nat) (vd k i a pr j : Nat) : List Nat := slTo ns vs out nx vd k i a ++ ((toS ns vs i).take j).map (fun q => pr + q)
def CJ (rv : Bool) (o vd j : Nat) : Prop := (rv = true ∧ o ≠ vd) ∨ j = 0
/-- A list of numbers of a call's own. -/
def IRow (w : World) (B : Nat) (v : Value) (L : List Nat) : Prop := w.ownsRow B 3 1 v L.length (nInts L)

set_option maxHeartbeats 16000000 in
set_option maxRecDepth 100000 in
theorem slips_net (R F gp cap P K : Nat) (ns : List Nd) (bs vs : List Nat) (out : Nat → Nat) (xs : List Nat) (hd : Bool) (vd : Nat) (w : World) (h : RowsM w R F gp cap ns bs vs) (hf : FullR w P K out (nxR xs)) (hg : Good ns) (hM : vs.length ≤ 256) (hM0 : 0 < vs.length) (hK0 : 0 < K) (hK : K ≤ 796594185) (hc : ∀ i a, i < K → a < 8 → nxL xs i a < K)
    (EN : ∀ W P', NetM W P' (K * vs.length) (slF ns vs out (nxL xs) vd) ns.length (kpF ns vs) → Calls Try.prog 91 #[.pointer (some ⟨P', 0, none⟩)] W fun e w' => ∃ g good, e = .returned (.slice (some ⟨g, 0, none⟩) (K * vs.length) (K * vs.length)) ∧ W.heap.size ≤ g ∧ BO w' W.heap.size g (K * vs.length) good ∧ (∀ i, good i = true ↔ ∃ c, c < K * vs.length ∧ reach (Ed (K * vs.length) (slF ns vs out (nxL xs) vd)) i c ∧ GN (K * vs.length) (slF ns vs out (nxL xs) vd) ns.length (kpF ns vs) c) ∧ Below W.heap.size W w') :
    Calls Try.prog 75 #[.pointer (some ⟨R, 0, none⟩), .pointer (some ⟨P, 0, none⟩), .bool hd, .int .i64 (vd : Nat)] w fun e w' => ∃ b : Bool, ∃ good : Nat → Bool, e = .returned (.bool b) ∧ (b = true ↔ ∃ i, i < vs.length ∧ mOf vs i (ns.length - 1) = hd ∧ good i = true) ∧ (∀ i, good i = true ↔ ∃ c, c < K * vs.length ∧ reach (Ed (K * vs.length) (slF ns vs out (nxL xs) vd)) i c ∧ GN (K * vs.length) (slF ns vs out (nxL xs) vd) ns.length (kpF ns vs) c) ∧ Below w.heap.size w w' := by
  obtain ⟨v1, a1, ao1, cap1, rfl, hsc, hrow⟩ := h.c1
  obtain ⟨v2, a2, ao2, cap2, rfl, htc, htow⟩ := h.c2
  obtain ⟨gs, rfl, hgs, hsets⟩ := hrow hM0
  obtain ⟨gt, rfl, hgt, htos⟩ := htow hM0
  obtain ⟨aoF, capF, f0⟩ := hf.c0
  obtain ⟨vO, f1, aoO, capO, rfl, hocap, horow⟩ := hf.c1
  obtain ⟨vX, f2, aoX, capX, rfl, hxcap, hxrow⟩ := hf.c2
  have hR := h.lt
  have hP := hf.lt
  have r0 := h.c0
  have hle := hg.le
  have HRM := hid h
  have HG := hid hg
  have HSETS := hid hsets
  have HTOS := hid htos
  have HOROW := hid horow
  have HXROW := hid hxrow
  have HCL := hid hc
  have HEN := hid EN
  obtain ⟨i0, hi, hz0, hz1, hz2⟩ := info_parts Try.infoIntE
  obtain ⟨i1, hi1, hz01, hz11, hz21⟩ := info_parts Try.infoIntL
  obtain ⟨i2b, hi2, hz02, hz12, hz22⟩ := info_parts Try.infoBool
  obtain ⟨i3, hi3, hz03, hz13, hz23⟩ := info_parts Try.infoBoolL
  have hol : ((List.range K).map out).length = K := by simp
  rw [hol] at f1 hocap HOROW
  have HOAT : Hid (∀ i, i < K → atN ((List.range K).map out) i = out i) := hid (fun i hi => by simp [atN, List.getD, hi])
  have RD := hid (fun (W : World) (b : Nat) (S : Nat → Bool) (a : Nat) (ha : a < 8) (h1 : Below w.heap.size w W) (h2 : Rb W b ns.length S) => read_set F gp cap b ns.length ns bs S W a ha (h.fr.below h1) h2 hg (Nat.le_refl _))
  have KD := hid (fun (W : World) (b : Nat) (S : Nat → Bool) (p : Nat) (hp : p < ns.length) (h1 : Below w.heap.size w W) (h2 : Rb W b ns.length S) => kept_set F gp cap b ns.length ns bs S W p hp (h.fr.below h1) h2 hg (Nat.le_refl _))
  have WH := hid (fun (W : World) (h1 : Below w.heap.size w W) => whole_any R F gp cap ns bs vs hd W (h.below h1) hg hM)
  clear h hf hg hsets htos hrow htow horow hxrow hc EN
  go_enter Try.func75, Try.ntmps75
  go_wp2_with fail
  have ba := hid ((Below.refl w.heap.size w).alloc (Nat.le_refl _) (.cells #[.slice none 0 0, .slice none 0 0] 143))
  have T1 := hid (two_new w (.slice none 0 0) (.slice none 0 0) 143)
  go_loopw [11] (fun i wq => ∃ (k : Nat) (vT : Value) (V : Nat → Value), k ≤ K ∧ i = .int .i64 k ∧ Hid (Two wq w.heap.size vT (.slice none 0 0)) ∧ Hid (Rws wq (w.heap.size + 1) 27 3 vT (k * vs.length) V (fun q => nInts (slF ns vs out (nxL xs) vd q))) ∧ Hid (Below w.heap.size w wq) ∧ w.heap.size + 1 ≤ wq.heap.size) (fun i _ => K - (intOf i).toNat)
  case atStart => exact ⟨0, _, fun _ => .slice none 0 0, Nat.zero_le _, rfl, T1, by rw [Nat.zero_mul]; exact hid (rws_nil _ _ _ _ _ _), ba, by simp⟩
  case round =>
    obtain ⟨k, vT, V, hk, rfl, HT, HV, HB, hsz⟩ := hrel
    rename World => W0
    clear ba T1
    have f0' := (HB.out.cell (p := ⟨P, 0, none⟩) hP).trans f0
    by_cases hlk : k < K
    · obtain ⟨gO, e, hgO, hoc⟩ := HOROW.out (by omega)
      subst e
      obtain ⟨gX, e, hgX, hxc⟩ := HXROW.out (by omega)
      subst e
      obtain ⟨rX, cX, aoR, capR, e, hcapR, hxr⟩ := hxc k hlk
      subst e
      rw [nxR_len] at cX hcapR hxr
      obtain ⟨gR, e, hgR, hxv⟩ := hxr (by omega)
      subst e
      have HOK := hid (by have h9 := hoc k hlk; rwa [HOAT.out k hlk] at h9 : w.cell? ⟨gO, k, none⟩ = some (.int .i64 (out k : Nat)))
      have HOC := hid (fun x (hx : x < K) => (by have h9 := hoc x hx; rwa [HOAT.out x hx] at h9 : w.cell? ⟨gO, x, none⟩ = some (.int .i64 (out x : Nat))))
      have HXV := hid (fun a (ha : a < 8) => (by have h9 := hxv a ha; rwa [nxR_at xs ha] at h9 : w.cell? ⟨gR, a, none⟩ = some (.int .i64 (nxL xs k a : Nat))))
      have HCX := hid cX
      clear hoc hxc hxr hxv cX
      go_wp2_with fail
      go_loopw [12] (fun i wq => ∃ (i' : Nat) (vT : Value) (V : Nat → Value), i' ≤ vs.length ∧ i = .int .i64 i' ∧ Hid (Two wq w.heap.size vT (.slice none 0 0)) ∧ Hid (Rws wq (w.heap.size + 1) 27 3 vT (k * vs.length + i') V (fun q => nInts (slF ns vs out (nxL xs) vd q))) ∧ Hid (Below w.heap.size w wq) ∧ w.heap.size + 1 ≤ wq.heap.size) (fun i _ => vs.length - (intOf i).toNat)
      case atStart => exact ⟨0, _, V, Nat.zero_le _, rfl, HT, HV, HB, hsz⟩
      case round =>
        obtain ⟨i', vT, V, hi', rfl, HT, HV, HB, hsz⟩ := hrel
        rename World => W1
        clear f0'
        by_cases hli : i' < vs.length
        · have HVB := hid (fun q (hq : q < k * vs.length + i') z (h : (V q).ownBlock = some z) => ((HV.out.row q hq).lt z h).2)
          go_wp2_with fail
          go_loopw [13, 14] (fun to i wq => ∃ a : Nat, a ≤ 8 ∧ i = .int .i64 a ∧ Hid (wq.ownsRow W1.heap.size 3 1 to (slTo ns vs out (nxL xs) vd k i' a).length (nInts (slTo ns vs out (nxL xs) vd k i' a))) ∧ Hid (Two wq w.heap.size vT (.slice none 0 0)) ∧ Hid (Rws wq (w.heap.size + 1) 27 3 vT (k * vs.length + i') V (fun q => nInts (slF ns vs out (nxL xs) vd q))) ∧ Hid (Below w.heap.size w wq) ∧ W1.heap.size ≤ wq.heap.size) (fun _ i _ => 8 - (intOf i).toNat)
          case atStart => exact ⟨0, by omega, rfl, hid (World.ownsRow_nil _ _ _ _), HT, HV, HB, Nat.le_refl _⟩
          case round =>
            obtain ⟨a, ha, rfl, HL, HT, HV, HB, hsW⟩ := hrel
            rename World => W2
            have p1 := (HB.out.cell (p := ⟨P, 1, none⟩) hP).trans f1
            have ok := (HB.out.cell (p := ⟨gO, k, none⟩) hgO).trans HOK.out
            by_cases hla : a < 8
            · by_cases hov : out k = vd
              · have HNO := hid (slTo_none ns vs out (nxL xs) vd (i := i') hov)
                have ok2 := ok
                rw [hov] at ok2
                have hsl : slTo ns vs out (nxL xs) vd k i' a = slF ns vs out (nxL xs) vd (k * vs.length + i') := by rw [slF_at ns vs out (nxL xs) vd hli, HNO.out, HNO.out]
                rw [hsl] at HL
                clear ok hov hsl
                have hql : (slF ns vs out (nxL xs) vd (k * vs.length + i')).length ≤ 2048 := by
                  rw [slF_at ns vs out (nxL xs) vd hli]
                  exact Nat.le_trans (slTo_len ns vs out (nxL xs) vd k i' 8) (Nat.le_trans (Nat.mul_le_mul_left 8 hM) (by omega))
                have hkm : k * vs.length + i' < 796594185 * 256 := Nat.lt_of_lt_of_le (pm_lt (show k < 796594185 by omega) hli) (Nat.mul_le_mul_left _ hM)
                have HQE : Hid (k * vs.length + (i' + 1) = (k * vs.length + i') + 1) := hid rfl
                have HVB2 := HVB
                generalize hqE : k * vs.length + i' = qq at *
                generalize hLE : slF ns vs out (nxL xs) vd qq = L at *
                obtain ⟨aoL, cpL, rfl⟩ := own_slice HL.out
                obtain ⟨aoN, cpN, rfl⟩ := own_slice HV.out.out
                have k0 := HT.out.c0
                have b6 := (Below.refl W2.heap.size W2).alloc (Nat.le_refl _) (.cells #[.slice aoL L.length cpL] 27)
                go_wp2_with (at_builtin; go_must (refine wpList_append_lies _ rfl (.tmp 132) (.tmp 134) 44 rfl (w.heap.size + 1) 27 i1 (.slice none 0 0) 1 24 Try.underlying44 hi1 hz01 hz11 hz21 rfl (by decide) _ qq ((List.range qq).map V) rfl (HV.out.out.alloc _) ⟨W2.heap.size, 0, none⟩ 1 1 [.slice aoL L.length cpL] rfl rfl (cells_put W2 [.slice aoL L.length cpL] _) (by intro y hy; simp at hy; rcases hy with rfl; rfl) (by decide) (by unfold maxLen; omega) (by omega) (by simp; omega) (W2.heap.size + 1) (by simp) ?_))
                intro gg cc w7 hown hgrow hat hlt7
                have hs7 : W2.heap.size ≤ w7.heap.size := by
                  have := hgrow.size
                  simp at this
                  omega
                have hTl := HT.out.lt
                have hNT : (Value.slice aoN qq cpN).ownBlock ≠ some w.heap.size := fun e => by have := (HV.out.out.lt _ e).1; omega
                have bT := hgrow.block w.heap.size (by rw [World.size_alloc]; omega) (fun e => hNT e.symm)
                have hT6 := HT.out.below b6 hTl
                have T7 : Two w7 w.heap.size (.slice aoN qq cpN) (.slice none 0 0) := ⟨(World.cell?_of_block (a := ⟨w.heap.size, 0, none⟩) bT).trans hT6.c0, (World.cell?_of_block (a := ⟨w.heap.size, 1, none⟩) bT).trans hT6.c1, (World.frozen?_of_block (a := ⟨w.heap.size, 0, none⟩) bT).trans hT6.f0, (World.frozen?_of_block (a := ⟨w.heap.size, 1, none⟩) bT).trans hT6.f1⟩
                have OLa := (own_mono HL.out (show w.heap.size + 1 ≤ W1.heap.size by omega)).alloc (.cells #[.slice aoL L.length cpL] 27)
                have V7 := rws_push (HV.out.keeps b6) (x := .slice aoL L.length cpL) (by rw [hLE, nInts_len]; exact OLa) (by decide) hgrow hown
                have q0 := T7.c0
                have q1 := T7.f0
                have D1 := hid (T7.set0 (.slice (some ⟨gg, 0, none⟩) (qq + 1) cc))
                have D2 := hid (V7.set (show w.heap.size < w.heap.size + 1 by omega) 0 (.slice (some ⟨gg, 0, none⟩) (qq + 1) cc))
                have D4 := hid (((HB.out.alloc HB.out.size (.cells #[.slice aoL L.length cpL] 27)).grown hgrow (by simp; omega) (fun q h => by have := (HV.out.out.lt q h).1; omega)).setCell (p := ⟨w.heap.size, 0, none⟩) (Nat.le_refl _) (.slice (some ⟨gg, 0, none⟩) (qq + 1) cc))
                clear hown hgrow hat b6 HL HT HV HB OLa T7 V7 hNT bT hT6
                go_wp2_with fail
                go_roundw
                case rel => exact ⟨i' + 1, _, _, by omega, by go_num, D1, by rw [HQE.out]; exact D2, D4, by simp; omega⟩
                case measure => simp [intOf]; omega
              · have hov1 : ¬ ((out k : Int) = (vd : Int)) := by omega
                have hov2 : ((out k : Int) != (vd : Int)) = true := by simpa using hov1
                have HOV := hid hov
                obtain ⟨b, cb, hrb⟩ := HSETS.out i' hli
                have r0' := (HB.out.cell (p := ⟨R, 0, none⟩) hR).trans r0
                have a1' := (HB.out.cell (p := ⟨R, 1, none⟩) hR).trans a1
                have cb' := (HB.out.cell (p := ⟨gs, i', none⟩) hgs).trans cb
                have C := fun m => RD.out (W2.drewN m) b (mOf vs i') a hla (below_drewN HB.out m) ((hrb.below HB.out).drewN m)
                have x2 := (HB.out.cell (p := ⟨P, 2, none⟩) hP).trans f2
                have x3 := (HB.out.cell (p := ⟨gX, k, none⟩) hgX).trans HCX.out
                have x4 := (HB.out.cell (p := ⟨gR, a, none⟩) hgR).trans (HXV.out a hla)
                have x2' : ∀ m, (W2.drewN m).cell? ⟨P, 2, none⟩ = some (.slice (some ⟨gX, 0, none⟩) K capX) := fun m => x2
                have x3' : ∀ m, (W2.drewN m).cell? ⟨gX, k, none⟩ = some (.slice (some ⟨gR, 0, none⟩) 8 capR) := fun m => x3
                have x4' : ∀ m, (W2.drewN m).cell? ⟨gR, a, none⟩ = some (.int .i64 (nxL xs k a : Nat)) := fun m => x4
                clear cb hrb
                have hxK := HCL.out k a hlk hla
                have HSY := hid (slA_yes ns vs out (nxL xs) vd (k := k) (i := i') (a := a))
                have HSN := hid (slA_no ns vs out (nxL xs) vd (k := k) (i := i') (a := a))
                have HSS := hid (slTo_succ ns vs out (nxL xs) vd k i' a)
                have HLB := hid (fun q h => (HL.out.lt q h).1)
                have hlen := slTo_len ns vs out (nxL xs) vd k i' a
                have hlen2 : (slTo ns vs out (nxL xs) vd k i' a).length ≤ 2048 := Nat.le_trans hlen (Nat.le_trans (Nat.mul_le_mul ha hM) (by omega))
                clear hlen
                generalize readB' ns (mOf vs i') a = rv at *
                generalize nxL xs k a = x at *
                go_wp2_with fail
                go_quiet ((go_at_call 92; exact Calls.quiet_of_same (C _)))
                have z2 := x2' nq
                have z3 := x3' nq
                have z4 := x4' nq
                have HB3 := hid (below_drewN HB.out nq)
                have bq := below_drewN (Below.refl W2.heap.size W2) nq
                have HL3 := hid (own_keeps HL.out bq)
                have HT3 := hid (HT.out.below bq HT.out.lt)
                have HV3 := hid (HV.out.keeps bq)
                have hsW3 : W1.heap.size ≤ (W2.drewN nq).heap.size := hsW
                clear C x2' x3' x4' x2 x3 x4 r0' a1' cb' p1 ok bq HL HT HV HB
                generalize W2.drewN nq = W3 at *
                clear hov hov1 hov2
                obtain ⟨rT, cT, aoT, capT, e, hcapT, htr⟩ := HTOS.out i' hli
                subst e
                have HCT := hid cT
                have HTR := hid htr
                have hTl := toS_len ns vs i'
                have HTB := hid (fun b => toS_lt (ns := ns) (vs := vs) (i := i') (b := b))
                clear cT htr
                have HOX := hid (HOC.out x hxK)
                have hpr : x * vs.length ≤ 796594185 * 256 := Nat.mul_le_mul (by omega) hM
                have wm : IntKind.i64.wrap ((x : Int) * (vs.length : Int)) = ((x * vs.length : Nat) : Int) := by
                  rw [IntKind.wrap_i64, ← Int.natCast_mul]; omega
                generalize hprE : x * vs.length = pr at *
                have HPR := hid hprE
                clear hprE
                generalize hlnE : (toS ns vs i').length = ln at *
                have HLN := hid hlnE
                clear hlnE
                go_wp2_with fail
                clear z2 z3 z4
                go_loopw [13, 17] (fun to i wq => ∃ j : Nat, j ≤ ln ∧ i = .int .i64 j ∧ Hid (CJ rv (out x) vd j) ∧ Hid (IRow wq W1.heap.size to (slJ ns vs out (nxL xs) vd k i' a pr j)) ∧ Hid (Two wq w.heap.size vT (.slice none 0 0)) ∧ Hid (Rws wq (w.heap.size + 1) 27 3 vT (k * vs.length + i') V (fun q => nInts (slF ns vs out (nxL xs) vd q))) ∧ Hid (Below w.heap.size w wq) ∧ W1.heap.size ≤ wq.heap.size) (fun _ i _ => ln - (intOf i).toNat)
                case atStart => exact ⟨0, Nat.zero_le _, rfl, hid (Or.inr rfl), hid (by unfold IRow slJ; simpa using HL3.out), HT3, HV3, HB3, hsW3⟩
                case round =>
                  obtain ⟨j, hj, rfl, hcond, HL, HT, HV, HB, hsW⟩ := hrel
                  rename World => W4
                  clear HL3 HT3 HV3 HB3 hsW3
                  have t2 := (HB.out.cell (p := ⟨R, 2, none⟩) hR).trans a2
                  have t3 := (HB.out.cell (p := ⟨gt, i', none⟩) hgt).trans HCT.out
                  have p1 := (HB.out.cell (p := ⟨P, 1, none⟩) hP).trans f1
                  have ox := (HB.out.cell (p := ⟨gO, x, none⟩) hgO).trans HOX.out
                  have fin : ¬ (j < ln ∧ rv = true ∧ out x ≠ vd) → Hid (slTo ns vs out (nxL xs) vd k i' (a + 1) = slJ ns vs out (nxL xs) vd k i' a pr j) := fun hno => hid (by
                    rw [HSS.out]
                    unfold slJ
                    congr 1
                    by_cases c : rv = true ∧ out x ≠ vd
                    · rw [HSY.out ⟨HOV.out, c.1, c.2⟩, List.take_of_length_le (by rw [HLN.out]; exact Nat.le_of_not_lt fun h => hno ⟨h, c⟩)]
                    · rcases hcond.out with h | h
                      · exact absurd h c
                      · rw [h, HSN.out (fun h => c ⟨h.2.1, h.2.2⟩)]
                        rfl)
                  by_cases hlj : j < ln
                  · cases rv with
                    | false =>
                      have FN := fin (by simp)
                      rw [← FN.out] at HL
                      unfold IRow at HL
                      clear fin FN hcond
                      go_wp2_with fail
                      go_roundw
                      case rel => exact ⟨a + 1, by omega, by go_num, HL, HT, HV, HB, hsW⟩
                      case measure => simp [intOf]; omega
                    | true =>
                      by_cases hxv : out x = vd
                      · have FN := fin (fun h => h.2.2 hxv)
                        rw [← FN.out] at HL
                        unfold IRow at HL
                        rw [hxv] at ox
                        clear fin FN hcond hxv
                        go_wp2_with fail
                        go_roundw
                        case rel => exact ⟨a + 1, by omega, by go_num, HL, HT, HV, HB, hsW⟩
                        case measure => simp [intOf]; omega
                      · have hxv1 : ¬ ((out x : Int) = (vd : Int)) := by omega
                        obtain ⟨gr, e, hgr, hrr⟩ := HTR.out (by omega)
                        subst e
                        obtain ⟨t, ht⟩ : ∃ t, (toS ns vs i')[j]? = some t := ⟨(toS ns vs i')[j]'(by rw [HLN.out]; exact hlj), List.getElem?_eq_getElem (by rw [HLN.out]; exact hlj)⟩
                        have htM := HTB.out t (List.mem_of_getElem? ht)
                        have hat : atN (toS ns vs i') j = t := by simp [atN, List.getD, ht]
                        have t4 : W4.cell? ⟨gr, j, none⟩ = some (.int .i64 (t : Nat)) := (HB.out.cell (p := ⟨gr, j, none⟩) hgr).trans (by have h9 := hrr j hlj; rw [hat] at h9; exact h9)
                        have HTK : Hid ((toS ns vs i').take (j + 1) = (toS ns vs i').take j ++ [t]) := hid (by rw [List.take_add_one, ht]; rfl)
                        have wa : IntKind.i64.wrap ((pr : Int) + (t : Int)) = (pr : Int) + (t : Int) := by rw [IntKind.wrap_i64]; omega
                        have htk : ((toS ns vs i').take j).length = j := by rw [List.length_take, HLN.out]; omega
                        have hLl : (slJ ns vs out (nxL xs) vd k i' a pr j).length ≤ 2048 + 256 := by unfold slJ; rw [List.length_append, List.length_map, htk]; omega
                        clear fin hrr ht hat htk
                        generalize hLE : slJ ns vs out (nxL xs) vd k i' a pr j = L at *
                        unfold IRow at HL
                        obtain ⟨aoL, cpL, rfl⟩ := own_slice HL.out
                        have HLB := hid (fun q h => (HL.out.lt q h).1)
                        go_wp2_with (at_builtin; go_must (refine wpList_append_lies _ rfl (.tmp 111) (.tmp 126) 27 rfl W1.heap.size 3 i0 (.int .i64 0) 1 8 Try.underlying27 hi hz0 hz1 hz2 rfl (by decide) _ L.length (nInts L) rfl (HL.out.alloc _) ⟨W4.heap.size, 0, none⟩ 1 1 [.int .i64 ((pr : Int) + (t : Int))] rfl rfl (cells_put W4 [.int .i64 ((pr : Int) + (t : Int))] _) (by intro y hy; simp at hy; rcases hy with rfl; rfl) (by decide) (by unfold maxLen; omega) (by omega) (by simp; omega) (W4.heap.size + 1) (by simp) ?_))
                        intro gg cc w7 hown hgrow hat hlt7
                        have b6 := (Below.refl W4.heap.size W4).alloc (Nat.le_refl _) (.cells #[.int .i64 ((pr : Int) + (t : Int))] 3)
                        have hs7 : W4.heap.size ≤ w7.heap.size := by
                          have := hgrow.size
                          simp at this
                          omega
                        have hLW : (Value.slice aoL L.length cpL).ownBlock ≠ some w.heap.size := fun e => by have := HLB.out _ e; omega
                        have bT := hgrow.block w.heap.size (by rw [World.size_alloc]; have := HT.out.lt; omega) (fun e => hLW e.symm)
                        have T7 : Hid (Two w7 w.heap.size vT (.slice none 0 0)) := hid (by
                          have hT6 := HT.out.below b6 HT.out.lt
                          exact ⟨(World.cell?_of_block (a := ⟨w.heap.size, 0, none⟩) bT).trans hT6.c0, (World.cell?_of_block (a := ⟨w.heap.size, 1, none⟩) bT).trans hT6.c1, (World.frozen?_of_block (a := ⟨w.heap.size, 0, none⟩) bT).trans hT6.f0, (World.frozen?_of_block (a := ⟨w.heap.size, 1, none⟩) bT).trans hT6.f1⟩)
                        have V7 := hid ((HV.out.keeps b6).keptI hgrow (own_ne' (HV.out.keeps b6).out (HL.out.alloc (.cells #[.int .i64 ((pr : Int) + (t : Int))] 3)) (by decide)) (fun q hq => by
                          cases hv : (V q).ownBlock with
                          | none => exact Or.inl rfl
                          | some z =>
                            refine Or.inr fun e => ?_
                            have h1 := HLB.out z e.symm
                            have h2 := HVB.out q hq z hv
                            omega))
                        have L7 : Hid (IRow w7 W1.heap.size (.slice (some ⟨gg, 0, none⟩) (L.length + 1) cc) (slJ ns vs out (nxL xs) vd k i' a pr (j + 1))) := hid (by
                          have hLE' : slTo ns vs out (nxL xs) vd k i' a ++ ((toS ns vs i').take j).map (fun q => pr + q) = L := hLE
                          unfold IRow slJ
                          rw [HTK.out, List.map_append, ← List.append_assoc, hLE', List.length_append, show nInts (L ++ List.map (fun j => pr + j) [t]) = nInts L ++ [.int .i64 ((pr : Int) + (t : Int))] by simp [nInts]]
                          exact hown)
                        have HB7 := hid ((HB.out.alloc (by omega) (.cells #[.int .i64 ((pr : Int) + (t : Int))] 3)).grown hgrow (by simp; omega) (fun q h => by have := HLB.out q h; omega))
                        have hc7 : Hid (CJ true (out x) vd (j + 1)) := hid (Or.inl ⟨rfl, hxv⟩)
                        clear hown hgrow hat b6 bT HL HT HV HB hLW
                        go_wp2_with fail
                        go_roundw
                        case rel => exact ⟨j + 1, by omega, by go_num, hc7, L7, T7, V7, HB7, by omega⟩
                        case measure => simp [intOf]; omega
                  · have FN := fin (fun h => hlj h.1)
                    rw [← FN.out] at HL
                    unfold IRow at HL
                    obtain rfl : j = ln := by omega
                    clear fin FN hcond
                    go_wp2_with fail
                    go_roundw
                    case rel => exact ⟨a + 1, by omega, by go_num, HL, HT, HV, HB, hsW⟩
                    case measure => simp [intOf]; omega
            · obtain rfl : a = 8 := by omega
              have hsl : slTo ns vs out (nxL xs) vd k i' 8 = slF ns vs out (nxL xs) vd (k * vs.length + i') := by rw [slF_at ns vs out (nxL xs) vd hli]
              rw [hsl] at HL
              clear hsl
              have hql : (slF ns vs out (nxL xs) vd (k * vs.length + i')).length ≤ 2048 := by
                rw [slF_at ns vs out (nxL xs) vd hli]
                exact Nat.le_trans (slTo_len ns vs out (nxL xs) vd k i' 8) (Nat.le_trans (Nat.mul_le_mul_left 8 hM) (by omega))
              have hkm : k * vs.length + i' < 796594185 * 256 := Nat.lt_of_lt_of_le (pm_lt (show k < 796594185 by omega) hli) (Nat.mul_le_mul_left _ hM)
              have HQE : Hid (k * vs.length + (i' + 1) = (k * vs.length + i') + 1) := hid rfl
              have HVB2 := HVB
              generalize hqE : k * vs.length + i' = qq at *
              generalize hLE : slF ns vs out (nxL xs) vd qq = L at *
              obtain ⟨aoL, cpL, rfl⟩ := own_slice HL.out
              obtain ⟨aoN, cpN, rfl⟩ := own_slice HV.out.out
              have k0 := HT.out.c0
              have b6 := (Below.refl W2.heap.size W2).alloc (Nat.le_refl _) (.cells #[.slice aoL L.length cpL] 27)
              go_wp2_with (at_builtin; go_must (refine wpList_append_lies _ rfl (.tmp 132) (.tmp 134) 44 rfl (w.heap.size + 1) 27 i1 (.slice none 0 0) 1 24 Try.underlying44 hi1 hz01 hz11 hz21 rfl (by decide) _ qq ((List.range qq).map V) rfl (HV.out.out.alloc _) ⟨W2.heap.size, 0, none⟩ 1 1 [.slice aoL L.length cpL] rfl rfl (cells_put W2 [.slice aoL L.length cpL] _) (by intro y hy; simp at hy; rcases hy with rfl; rfl) (by decide) (by unfold maxLen; omega) (by omega) (by simp; omega) (W2.heap.size + 1) (by simp) ?_))
              intro gg cc w7 hown hgrow hat hlt7
              have hs7 : W2.heap.size ≤ w7.heap.size := by
                have := hgrow.size
                simp at this
                omega
              have hTl := HT.out.lt
              have hNT : (Value.slice aoN qq cpN).ownBlock ≠ some w.heap.size := fun e => by have := (HV.out.out.lt _ e).1; omega
              have bT := hgrow.block w.heap.size (by rw [World.size_alloc]; omega) (fun e => hNT e.symm)
              have hT6 := HT.out.below b6 hTl
              have T7 : Two w7 w.heap.size (.slice aoN qq cpN) (.slice none 0 0) := ⟨(World.cell?_of_block (a := ⟨w.heap.size, 0, none⟩) bT).trans hT6.c0, (World.cell?_of_block (a := ⟨w.heap.size, 1, none⟩) bT).trans hT6.c1, (World.frozen?_of_block (a := ⟨w.heap.size, 0, none⟩) bT).trans hT6.f0, (World.frozen?_of_block (a := ⟨w.heap.size, 1, none⟩) bT).trans hT6.f1⟩
              have OLa := (own_mono HL.out (show w.heap.size + 1 ≤ W1.heap.size by omega)).alloc (.cells #[.slice aoL L.length cpL] 27)
              have V7 := rws_push (HV.out.keeps b6) (x := .slice aoL L.length cpL) (by rw [hLE, nInts_len]; exact OLa) (by decide) hgrow hown
              have q0 := T7.c0
              have q1 := T7.f0
              have D1 := hid (T7.set0 (.slice (some ⟨gg, 0, none⟩) (qq + 1) cc))
              have D2 := hid (V7.set (show w.heap.size < w.heap.size + 1 by omega) 0 (.slice (some ⟨gg, 0, none⟩) (qq + 1) cc))
              have D4 := hid (((HB.out.alloc HB.out.size (.cells #[.slice aoL L.length cpL] 27)).grown hgrow (by simp; omega) (fun q h => by have := (HV.out.out.lt q h).1; omega)).setCell (p := ⟨w.heap.size, 0, none⟩) (Nat.le_refl _) (.slice (some ⟨gg, 0, none⟩) (qq + 1) cc))
              clear hown hgrow hat b6 HL HT HV HB OLa T7 V7 hNT bT hT6
              go_wp2_with fail
              go_roundw
              case rel => exact ⟨i' + 1, _, _, by omega, by go_num, D1, by rw [HQE.out]; exact D2, D4, by simp; omega⟩
              case measure => simp [intOf]; omega
        · obtain rfl : i' = vs.length := by omega
          have HQS : Hid ((k + 1) * vs.length = k * vs.length + vs.length) := hid (Nat.succ_mul _ _)
          go_wp2_with fail
          go_roundw
          case rel => exact ⟨k + 1, vT, V, by omega, by go_num, HT, by rw [HQS.out]; exact HV, HB, hsz⟩
          case measure => simp [intOf]; omega
    · obtain rfl : k = K := by omega
      have HFR := hid HRM.out.fr
      have hF := HFR.out.lt0
      have fr0 := HFR.out.c0
      have hkM : k * vs.length ≤ 796594185 * 256 := Nat.mul_le_mul hK hM
      go_wp2_with fail
      clear f0'
      go_loopw [18] (fun i wq => ∃ (p : Nat) (vK : Value) (U : Nat → Value), p ≤ ns.length ∧ i = .int .i64 p ∧ Hid (Two wq w.heap.size vT vK) ∧ Hid (Rws wq (w.heap.size + 1) 27 3 vT (k * vs.length) V (fun q => nInts (slF ns vs out (nxL xs) vd q))) ∧ Hid (Rws wq (w.heap.size + 1) 36 4 vK p U (fun q => outTo (kpF ns vs q) (k * vs.length) (k * vs.length))) ∧ Hid (Below w.heap.size w wq) ∧ w.heap.size + 1 ≤ wq.heap.size) (fun i _ => ns.length - (intOf i).toNat)
      case atStart => exact ⟨0, _, fun _ => .slice none 0 0, Nat.zero_le _, rfl, HT, HV, hid (rws_nil _ _ _ _ _ _), HB, hsz⟩
      case round =>
        obtain ⟨p, vK, U, hp, rfl, HT, HV, HU, HB, hsz⟩ := hrel
        rename World => W1
        have r0' := (HB.out.cell (p := ⟨R, 0, none⟩) hR).trans r0
        have fr0' := (HB.out.cell (p := ⟨F, 0, none⟩) hF).trans fr0
        by_cases hlp : p < ns.length
        · have HUB := hid (fun q (hq : q < p) z (h : (U q).ownBlock = some z) => ((HU.out.row q hq).lt z h).2)
          go_wp2_with fail
          go_loopw [19, 20] (fun kept i wq => ∃ k2 : Nat, k2 ≤ k ∧ i = .int .i64 k2 ∧ Hid (wq.ownsRow W1.heap.size 4 1 kept (k2 * vs.length) (outTo (kpF ns vs p) (k2 * vs.length) (k2 * vs.length))) ∧ Hid (Two wq w.heap.size vT vK) ∧ Hid (Rws wq (w.heap.size + 1) 27 3 vT (k * vs.length) V (fun q => nInts (slF ns vs out (nxL xs) vd q))) ∧ Hid (Rws wq (w.heap.size + 1) 36 4 vK p U (fun q => outTo (kpF ns vs q) (k * vs.length) (k * vs.length))) ∧ Hid (Below w.heap.size w wq) ∧ W1.heap.size ≤ wq.heap.size) (fun _ i _ => k - (intOf i).toNat)
          case atStart => exact ⟨0, Nat.zero_le _, rfl, by rw [Nat.zero_mul]; exact hid (World.ownsRow_nil _ _ _ _), HT, HV, HU, HB, Nat.le_refl _⟩
          case round =>
            obtain ⟨k2, hk2, rfl, HL, HT, HV, HU, HB, hsW⟩ := hrel
            rename World => W2
            clear r0' fr0'
            have f0' := (HB.out.cell (p := ⟨P, 0, none⟩) hP).trans f0
            by_cases hlk2 : k2 < k
            · go_wp2_with fail
              clear f0'
              go_loopw [19, 21] (fun kept i wq => ∃ i2 : Nat, i2 ≤ vs.length ∧ i = .int .i64 i2 ∧ Hid (wq.ownsRow W1.heap.size 4 1 kept (k2 * vs.length + i2) (outTo (kpF ns vs p) (k2 * vs.length + i2) (k2 * vs.length + i2))) ∧ Hid (Two wq w.heap.size vT vK) ∧ Hid (Rws wq (w.heap.size + 1) 27 3 vT (k * vs.length) V (fun q => nInts (slF ns vs out (nxL xs) vd q))) ∧ Hid (Rws wq (w.heap.size + 1) 36 4 vK p U (fun q => outTo (kpF ns vs q) (k * vs.length) (k * vs.length))) ∧ Hid (Below w.heap.size w wq) ∧ W1.heap.size ≤ wq.heap.size) (fun _ i _ => vs.length - (intOf i).toNat)
              case atStart => exact ⟨0, Nat.zero_le _, rfl, HL, HT, HV, HU, HB, hsW⟩
              case round =>
                obtain ⟨i2, hi2', rfl, HL, HT, HV, HU, HB, hsW⟩ := hrel
                rename World => W3
                by_cases hli2 : i2 < vs.length
                · obtain ⟨b, cb, hrb⟩ := HSETS.out i2 hli2
                  have r0' := (HB.out.cell (p := ⟨R, 0, none⟩) hR).trans r0
                  have a1' := (HB.out.cell (p := ⟨R, 1, none⟩) hR).trans a1
                  have cb' := (HB.out.cell (p := ⟨gs, i2, none⟩) hgs).trans cb
                  have C := fun m => KD.out (W3.drewN m) b (mOf vs i2) p hlp (below_drewN HB.out m) ((hrb.below HB.out).drewN m)
                  have hlq : k2 * vs.length + i2 < 796594185 * 256 := Nat.lt_of_lt_of_le (pm_lt (show k2 < 796594185 by omega) hli2) (Nat.mul_le_mul_left _ hM)
                  have HKP : Hid (kpF ns vs p (k2 * vs.length + i2) = keptN (ndAt ns p) p (mOf vs i2)) := hid (by unfold kpF; rw [pm_mod hli2]; rfl)
                  clear cb hrb
                  generalize keptN (ndAt ns p) p (mOf vs i2) = kv at *
                  go_wp2_with fail
                  go_quiet ((go_at_call 100; exact Calls.quiet_of_same (C _)))
                  have HB3 := hid (below_drewN HB.out nq)
                  have bq := below_drewN (Below.refl W3.heap.size W3) nq
                  have HL3 := hid (own_keeps HL.out bq)
                  have HT3 := hid (HT.out.below bq HT.out.lt)
                  have HV3 := hid (HV.out.keeps bq)
                  have HU3 := hid (HU.out.keeps bq)
                  have hsW3 : W1.heap.size ≤ (W3.drewN nq).heap.size := hsW
                  clear C r0' a1' cb' bq HL HT HV HU HB
                  generalize W3.drewN nq = W4 at *
                  have HQE : Hid (k2 * vs.length + (i2 + 1) = (k2 * vs.length + i2) + 1) := hid rfl
                  generalize hqE : k2 * vs.length + i2 = qq at *
                  obtain ⟨aoL, cpL, rfl⟩ := own_slice HL3.out
                  have HLB := hid (fun q h => (HL3.out.lt q h).1)
                  go_wp2_with (at_builtin; go_must (refine wpList_append_lies _ rfl (.tmp 177) (.tmp 179) 36 rfl W1.heap.size 4 i2b (.bool false) 1 1 Try.underlying36 hi2 hz02 hz12 hz22 rfl (by decide) _ qq (outTo (kpF ns vs p) qq qq) rfl (HL3.out.alloc _) ⟨W4.heap.size, 0, none⟩ 1 1 [.bool kv] rfl rfl (cells_put W4 [.bool kv] _) (by intro y hy; simp at hy; rcases hy with rfl; rfl) (by decide) (by unfold maxLen; omega) (by omega) (by simp; omega) (W4.heap.size + 1) (by simp) ?_))
                  intro gg cc w7 hown hgrow hat hlt7
                  have b6 := (Below.refl W4.heap.size W4).alloc (Nat.le_refl _) (.cells #[.bool kv] 4)
                  have hs7 : W4.heap.size ≤ w7.heap.size := by
                    have := hgrow.size
                    simp at this
                    omega
                  have hLW : (Value.slice aoL qq cpL).ownBlock ≠ some w.heap.size := fun e => by have := HLB.out _ e; omega
                  have hTl := HT3.out.lt
                  have bT := hgrow.block w.heap.size (by rw [World.size_alloc]; omega) (fun e => hLW e.symm)
                  have T7 : Hid (Two w7 w.heap.size vT vK) := hid (by
                    have hT6 := HT3.out.below b6 hTl
                    exact ⟨(World.cell?_of_block (a := ⟨w.heap.size, 0, none⟩) bT).trans hT6.c0, (World.cell?_of_block (a := ⟨w.heap.size, 1, none⟩) bT).trans hT6.c1, (World.frozen?_of_block (a := ⟨w.heap.size, 0, none⟩) bT).trans hT6.f0, (World.frozen?_of_block (a := ⟨w.heap.size, 1, none⟩) bT).trans hT6.f1⟩)
                  have V7 := hid ((HV3.out.keeps b6).keptI hgrow (own_ne' (HV3.out.keeps b6).out (HL3.out.alloc (.cells #[.bool kv] 4)) (by decide)) (fun q hq => own_ne' ((HV3.out.keeps b6).row q hq) (HL3.out.alloc (.cells #[.bool kv] 4)) (by decide)))
                  have U7 := hid ((HU3.out.keeps b6).keptI hgrow (own_ne' (HU3.out.keeps b6).out (HL3.out.alloc (.cells #[.bool kv] 4)) (by decide)) (fun q hq => by
                    cases hv : (U q).ownBlock with
                    | none => exact Or.inl rfl
                    | some z =>
                      refine Or.inr fun e => ?_
                      have h1 := HLB.out z e.symm
                      have h2 := HUB.out q hq z hv
                      omega))
                  have L7 : Hid (w7.ownsRow W1.heap.size 4 1 (.slice (some ⟨gg, 0, none⟩) (qq + 1) cc) (qq + 1) (outTo (kpF ns vs p) (qq + 1) (qq + 1))) := hid (by
                    rw [outTo_grow, HKP.out]
                    exact hown)
                  have HB7 := hid ((HB3.out.alloc (by omega) (.cells #[.bool kv] 4)).grown hgrow (by simp; omega) (fun q h => by have := HLB.out q h; omega))
                  clear hown hgrow hat b6 bT HL3 HT3 HV3 HU3 HB3 hLW
                  go_wp2_with fail
                  go_roundw
                  case rel => exact ⟨i2 + 1, by omega, by go_num, by rw [HQE.out]; exact L7, T7, V7, U7, HB7, by omega⟩
                  case measure => simp [intOf]; omega
                · obtain rfl : i2 = vs.length := by omega
                  have HQS : Hid ((k2 + 1) * vs.length = k2 * vs.length + vs.length) := hid (Nat.succ_mul _ _)
                  go_wp2_with fail
                  go_roundw
                  case rel => exact ⟨k2 + 1, by omega, by go_num, by rw [HQS.out]; exact HL, HT, HV, HU, HB, hsW⟩
                  case measure => simp [intOf]; omega
            · obtain rfl : k2 = k := by omega
              obtain ⟨aoL, cpL, rfl⟩ := own_slice HL.out
              obtain ⟨aoN, cpN, rfl⟩ := own_slice HU.out.out
              have k0 := HT.out.c1
              have b6 := (Below.refl W2.heap.size W2).alloc (Nat.le_refl _) (.cells #[.slice aoL (k2 * vs.length) cpL] 36)
              go_wp2_with (at_builtin; go_must (refine wpList_append_lies _ rfl (.tmp 185) (.tmp 187) 98 rfl (w.heap.size + 1) 36 i3 (.slice none 0 0) 1 24 Try.underlying98 hi3 hz03 hz13 hz23 rfl (by decide) _ p ((List.range p).map U) rfl (HU.out.out.alloc _) ⟨W2.heap.size, 0, none⟩ 1 1 [.slice aoL (k2 * vs.length) cpL] rfl rfl (cells_put W2 [.slice aoL (k2 * vs.length) cpL] _) (by intro y hy; simp at hy; rcases hy with rfl; rfl) (by decide) (by unfold maxLen; omega) (by omega) (by simp; omega) (W2.heap.size + 1) (by simp) ?_))
              intro gg cc w7 hown hgrow hat hlt7
              have hs7 : W2.heap.size ≤ w7.heap.size := by
                have := hgrow.size
                simp at this
                omega
              have hTl := HT.out.lt
              have hNT : (Value.slice aoN p cpN).ownBlock ≠ some w.heap.size := fun e => by have := (HU.out.out.lt _ e).1; omega
              have bT := hgrow.block w.heap.size (by rw [World.size_alloc]; omega) (fun e => hNT e.symm)
              have hT6 := HT.out.below b6 hTl
              have T7 : Two w7 w.heap.size vT (.slice aoN p cpN) := ⟨(World.cell?_of_block (a := ⟨w.heap.size, 0, none⟩) bT).trans hT6.c0, (World.cell?_of_block (a := ⟨w.heap.size, 1, none⟩) bT).trans hT6.c1, (World.frozen?_of_block (a := ⟨w.heap.size, 0, none⟩) bT).trans hT6.f0, (World.frozen?_of_block (a := ⟨w.heap.size, 1, none⟩) bT).trans hT6.f1⟩
              have OLa := (own_mono HL.out (show w.heap.size + 1 ≤ W1.heap.size by omega)).alloc (.cells #[.slice aoL (k2 * vs.length) cpL] 36)
              have U7 := rws_push (HU.out.keeps b6) (x := .slice aoL (k2 * vs.length) cpL) (by rw [outTo_length]; exact OLa) (by decide) hgrow hown
              have V7 := (HV.out.keeps b6).grown (HU.out.out.alloc (.cells #[.slice aoL (k2 * vs.length) cpL] 36)) hgrow (by decide) (by decide)
              have q0 := T7.c1
              have q1 := T7.f1
              have D1 := hid (T7.set1 (.slice (some ⟨gg, 0, none⟩) (p + 1) cc))
              have D2 := hid (U7.set (show w.heap.size < w.heap.size + 1 by omega) 1 (.slice (some ⟨gg, 0, none⟩) (p + 1) cc))
              have D3 := hid (V7.set (show w.heap.size < w.heap.size + 1 by omega) 1 (.slice (some ⟨gg, 0, none⟩) (p + 1) cc))
              have D4 := hid (((HB.out.alloc HB.out.size (.cells #[.slice aoL (k2 * vs.length) cpL] 36)).grown hgrow (by simp; omega) (fun q h => by have := (HU.out.out.lt q h).1; omega)).setCell (p := ⟨w.heap.size, 1, none⟩) (Nat.le_refl _) (.slice (some ⟨gg, 0, none⟩) (p + 1) cc))
              clear hown hgrow hat b6 HL HT HV HU HB OLa T7 V7 U7 hNT bT hT6
              go_wp2_with fail
              go_roundw
              case rel => exact ⟨p + 1, _, _, by omega, by go_num, D1, D3, D2, D4, by simp; omega⟩
              case measure => simp [intOf]; omega
        · obtain rfl : p = ns.length := by omega
          have hTl := HT.out.lt
          have NM := hid (show NetM W1 w.heap.size (k * vs.length) (slF ns vs out (nxL xs) vd) ns.length (kpF ns vs) from ⟨hTl, ⟨_, HT.out.c0, rws_nrs HV.out⟩, ⟨_, HT.out.c1, rws_brc (Nat.mul_pos hK0 hM0) HU.out⟩⟩)
          clear HT HV HU
          go_wp2_with fail
          refine (HEN.out W1 w.heap.size NM.out).mono ?_
          rintro e w5 ⟨g5, good, rfl, hg5, hBO, hgood, hb5⟩
          have HB5 := hid (HB.out.trans (hb5.mono HB.out.size))
          have HBO := hid hBO
          have HGD := hid hgood
          clear hBO hgood hb5 r0' fr0'
          go_wp2_with fail
          refine (WH.out w5 HB5.out).mono ?_
          rintro e w6 ⟨g6, rfl, hrb, hg6, hb6⟩
          have HB6 := hid (HB5.out.trans (hb6.mono HB5.out.size))
          have H6 := hid hrb
          have H5 := hid (fun i (hi : i < k * vs.length) => (hb6.cell (p := ⟨g5, i, none⟩) HBO.out.blk.2).trans (HBO.out.get hi))
          have hMN : vs.length ≤ k * vs.length := by
            have := Nat.mul_le_mul_right vs.length (show 1 ≤ k from hK0)
            omega
          clear hrb hb6 HB HB5
          go_wp2_with fail
          go_loopw [25] (fun i wq => ∃ i2 : Nat, i2 ≤ vs.length ∧ i = .int .i64 i2 ∧ Hid (∀ j, j < i2 → ¬ (mOf vs j (ns.length - 1) = hd ∧ good j = true)) ∧ w6 = wq) (fun i _ => vs.length - (intOf i).toNat)
          case atStart => exact ⟨0, Nat.zero_le _, rfl, hid (fun j h => by omega), rfl⟩
          case round =>
            obtain ⟨i2, hi2', rfl, HA, e⟩ := hrel
            subst e
            by_cases hli2 : i2 < vs.length
            · have c6 := H6.out.cell i2 hli2
              have c5 := H5.out i2 (by omega)
              have hz1 : (i2 : Int) < ((k * vs.length : Nat) : Int) := by omega
              generalize hNE : k * vs.length = N at *
              have HA2 : Hid (((mOf vs i2 (ns.length - 1) == hd) && good i2) = false → ∀ j, j < i2 + 1 → ¬ (mOf vs j (ns.length - 1) = hd ∧ good j = true)) := hid (fun e j hj => by
                by_cases c : j = i2
                · subst c
                  rintro ⟨h1, h2⟩
                  rw [h1, h2] at e
                  simp at e
                · exact HA.out j (by omega))
              have HY : Hid (((mOf vs i2 (ns.length - 1) == hd) && good i2) = true → ∃ i, i < vs.length ∧ mOf vs i (ns.length - 1) = hd ∧ good i = true) := hid (fun e => by
                rw [Bool.and_eq_true, beq_iff_eq] at e
                exact ⟨i2, hli2, e.1, e.2⟩)
              generalize (mOf vs i2 (ns.length - 1) == hd) = fv at *
              generalize hgv : good i2 = gv at *
              clear hgv
              cases fv with
              | false =>
                go_wp2_with fail
                go_roundw
                case rel => exact ⟨i2 + 1, by omega, by go_num, hid (HA2.out rfl), trivial⟩
                case measure => simp [intOf]; omega
              | true =>
                cases gv with
                | false =>
                  go_wp2_with fail
                  go_roundw
                  case rel => exact ⟨i2 + 1, by omega, by go_num, hid (HA2.out rfl), trivial⟩
                  case measure => simp [intOf]; omega
                | true =>
                  go_wp2_with fail
                  go_ret
                  subst hNE
                  exact ⟨true, good, rfl, ⟨fun _ => HY.out rfl, fun _ => rfl⟩, HGD.out, HB6.out⟩
            · obtain rfl : i2 = vs.length := by omega
              go_wp2_with fail
              go_ret
              exact ⟨false, good, rfl, ⟨fun h => (by cases h), fun ⟨i, h1, h2⟩ => absurd h2 (HA.out i h1)⟩, HGD.out, HB6.out⟩

end Go.Proofs.Ytjagijohfkffiaa
