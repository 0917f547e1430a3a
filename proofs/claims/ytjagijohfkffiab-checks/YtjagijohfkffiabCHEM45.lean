import Derived.Test.YtjagijohfkffiabCHEM24
import Derived.Test.YtjagijohfkffiabCHEM44
import Derived.BigQuiet

/- The walk of the reference's Check. -/
namespace Go.Proofs.Ytjagijohfkffiab
open Go.RowKit
set_option linter.unusedVariables false

def ckJ (ns : List Nd) (vs : List Nat) (lt : Nat → Nat) (ed : Nat → Nat → Bool) (k i y pr j : Nat) : List Nat := ckTo ns vs lt ed k i y ++ ((toS ns vs i).take j).map (fun q => pr + q)

theorem ck_start {ss : List Int} {n : Nat} (hn : numB n ss = true) {P : Nat → Prop} : (∃ k, k < n ∧ gSt ss k = true ∧ P k) ↔ ∃ j, j < ss.length ∧ P ((ss.getD j 0).toNat) := by
  constructor
  · rintro ⟨k, hk, hs, hp⟩
    obtain ⟨j, hj, e⟩ := List.getElem_of_mem (inB_iff.1 hs)
    refine ⟨j, hj, ?_⟩
    rw [List.getD, List.getElem?_eq_getElem hj, e]
    exact hp
  · rintro ⟨j, hj, hp⟩
    have hm : ss.getD j 0 ∈ ss := by rw [List.getD, List.getElem?_eq_getElem hj]; exact List.getElem_mem _
    obtain ⟨h1, h2⟩ := numB_iff.1 hn _ hm
    refine ⟨(ss.getD j 0).toNat, by omega, ?_, hp⟩
    refine inB_iff.2 ?_
    rw [Int.toNat_of_nonneg h1]
    exact hm

theorem allL_at {u : List Int} (hu : allL u = true) {j : Nat} (hj : j < u.length) : isL (u.getD j 0) = true := by
  unfold allL at hu
  rw [List.all_eq_true] at hu
  refine hu _ ?_
  rw [List.getD, List.getElem?_eq_getElem hj]
  exact List.getElem_mem _

/-- What the reference's Check answers. -/
def RChecked (zs : List Int) (zss : List (List Int)) (ss : List Int) (s : ByteArray) (w : World) (e : Ending) (w' : World) : Prop :=
  ∃ (y : Bool) (er : Nat), e = .returned (.tuple #[.bool y, .int .i64 (er : Nat)]) ∧ Below w.heap.size w w' ∧
    (graphB zs zss ss = false → er = 10 ∧ y = false) ∧
    (graphB zs zss ss = true → (parseOf s).1 ≠ 0 → er = (parseOf s).1 ∧ y = false) ∧
    (graphB zs zss ss = true → (parseOf s).1 = 0 → er = 0 ∧ (y = true ↔ HoldsIn (parseOf s).2 zs.length (gLt zs) (gEd zss) (gSt ss)))

theorem rchk_ten {zs : List Int} {zss : List (List Int)} {ss : List Int} {s : ByteArray} {w w' : World} (hg : graphB zs zss ss = false) (hb : Below w.heap.size w w') : RChecked zs zss ss s w (.returned (.tuple #[.bool false, .int .i64 10])) w' :=
  ⟨false, 10, rfl, hb, fun _ => ⟨rfl, rfl⟩, fun h => absurd (hg.symm.trans h) (by simp), fun h => absurd (hg.symm.trans h) (by simp)⟩
theorem rchk_err {zs : List Int} {zss : List (List Int)} {ss : List Int} {s : ByteArray} {w w' : World} (hg : graphB zs zss ss = true) (hp : (parseOf s).1 ≠ 0) (hb : Below w.heap.size w w') : RChecked zs zss ss s w (.returned (.tuple #[.bool false, .int .i64 ((parseOf s).1 : Nat)])) w' :=
  ⟨false, _, rfl, hb, fun h => absurd (hg.symm.trans h) (by simp), fun _ _ => ⟨rfl, rfl⟩, fun _ h => absurd h hp⟩
theorem rchk_ok {zs : List Int} {zss : List (List Int)} {ss : List Int} {s : ByteArray} {w w' : World} (hg : graphB zs zss ss = true) (hp : (parseOf s).1 = 0) (hb : Below w.heap.size w w') (y : Bool) (hy : y = true ↔ HoldsIn (parseOf s).2 zs.length (gLt zs) (gEd zss) (gSt ss)) : RChecked zs zss ss s w (.returned (.tuple #[.bool y, .int .i64 0])) w' :=
  ⟨y, 0, rfl, hb, fun h => absurd (hg.symm.trans h) (by simp), fun _ h => absurd hp h, fun _ _ => ⟨rfl, hy⟩⟩

section
variable (a1 a2 a3 : Option Addr) (l1 c1 l2 c2 l3 c3 : Nat) (zs : List Int) (zss : List (List Int)) (ss : List Int) (s : ByteArray) (w : World)

set_option maxHeartbeats 4000000 in
set_option maxRecDepth 100000 in
theorem rcheck_no (hm : s.size ≤ maxLen) (h1 : Ints w a1 l1 c1 zs) (h2 : Lists w a2 l2 c2 zss) (h3 : Ints w a3 l3 c3 ss) (hc : graphB zs zss ss = false ∨ (parseOf s).1 ≠ 0) :
    Calls Try.prog 22 #[.agg #[.slice a1 l1 c1, .slice a2 l2 c2, .slice a3 l3 c3], .string s] w (RChecked zs zss ss s w) := by
  have ba := (Below.refl w.heap.size w).alloc (Nat.le_refl _) (.cells #[.slice a1 l1 c1, .slice a2 l2 c2, .slice a3 l3 c3] 46)
  have IG := hid (isGraph_any a1 a2 a3 l1 c1 l2 c2 l3 c3 zs zss ss _ (h1.below ba) (h2.below ba) (h3.below ba))
  have HB0 := hid ba
  have C := hid (fun W => formulate_any s W hm)
  unfold Formulated at C
  have HC := hid hc
  have K10 := hid (fun w' => @rchk_ten zs zss ss s w w')
  have KER := hid (fun w' => @rchk_err zs zss ss s w w')
  clear h1 h2 h3 ba hc
  generalize graphB zs zss ss = gb at *
  generalize parseOf s = p at *
  go_enter Try.func22, Try.ntmps22
  go_wp2_with fail
  refine IG.out.mono ?_
  rintro e w1 ⟨rfl, b1⟩
  simp only [World.size_alloc] at b1
  have HB1 := hid (HB0.out.trans (b1.mono (by omega)))
  clear IG HB0 b1
  cases gb with
  | false =>
    go_wp2_with fail
    go_ret2
    exact K10.out _ (by first | rfl | trivial) HB1.out
  | true =>
    have hne : p.1 ≠ 0 := by
      rcases HC.out with h | h
      · cases h
      · exact h
    have k : ((p.1 : Int) != 0) = true := by rw [bne_iff_ne]; omega
    go_wp2_with fail
    refine (C.out _).mono ?_
    rintro e w2 ⟨b2, ⟨_, rfl⟩ | ⟨h0, _⟩⟩
    · have HB2 := hid (HB1.out.trans (b2.mono HB1.out.size))
      clear C b2
      go_wp2_with fail
      go_ret2
      exact KER.out _ (by first | rfl | trivial) hne HB2.out
    · exact absurd h0 hne

set_option maxHeartbeats 16000000 in
set_option maxRecDepth 100000 in
theorem rcheck_yes (hm : s.size ≤ maxLen) (h1 : Ints w a1 l1 c1 zs) (h2 : Lists w a2 l2 c2 zss) (h3 : Ints w a3 l3 c3 ss) (hG : graphB zs zss ss = true) (h : (parseOf s).1 = 0) :
    Calls Try.prog 22 #[.agg #[.slice a1 l1 c1, .slice a2 l2 c2, .slice a3 l3 c3], .string s] w (RChecked zs zss ss s w) := by
  have ba := (Below.refl w.heap.size w).alloc (Nat.le_refl _) (.cells #[.slice a1 l1 c1, .slice a2 l2 c2, .slice a3 l3 c3] 46)
  have T0 := hid (three_new w (.slice a1 l1 c1) (.slice a2 l2 c2) (.slice a3 l3 c3) 46)
  have IG := hid (isGraph_any a1 a2 a3 l1 c1 l2 c2 l3 c3 zs zss ss _ (h1.below ba) (h2.below ba) (h3.below ba))
  have L1 := h1.hlen
  have L2 := h2.hlen
  have L3 := h3.hlen
  obtain ⟨g1, g6, g21, gal, g3, gnu⟩ : 1 ≤ l1 ∧ l1 ≤ 6 ∧ l1 = l2 ∧ allL zs = true ∧ l3 ≠ 0 ∧ numB l1 ss = true := by
    have h9 := hG
    unfold graphB at h9
    rw [L1, L2, L3] at h9
    simp only [Bool.and_eq_true, decide_eq_true_eq] at h9
    exact ⟨h9.1.1.1.1.1.1, h9.1.1.1.1.1.2, h9.1.1.1.1.2.symm, h9.1.1.1.2, h9.1.1.2, h9.1.2⟩
  subst g21
  have HAL := hid gal
  have HNU := hid gnu
  have HLL := hid L1
  have HLS := hid L3
  have m1 := h1.hcap
  have m2 := h1.hmax
  have n1 := h2.hcap
  have n2 := h2.hmax
  have o1 := h3.hcap
  have o2 := h3.hmax
  have HB0 := hid ba
  have J1 := hid (h1.below ba)
  have J2 := hid (h2.below ba)
  have J3 := hid (h3.below ba)
  rw [hG] at IG
  have C := hid (fun W => formulate_any s W hm)
  unfold Formulated at C
  have GD := hid (parse_good h)
  have KOK := hid (fun w' => @rchk_ok zs zss ss s w w' hG h)
  generalize parseOf s = p at *
  obtain ⟨p1, ns⟩ := p
  dsimp only at *
  subst h
  clear h1 h2 h3 ba L1 L2 L3 gal gnu hG hm
  go_enter Try.func22, Try.ntmps22
  go_wp2_with fail
  refine IG.out.mono ?_
  rintro e w1 ⟨rfl, b1⟩
  have B1 := hid b1
  clear IG b1
  go_wp2_with fail
  refine (C.out _).mono ?_
  rintro e w2 ⟨b2, ⟨h0, _⟩ | ⟨_, bs, rfl, hf⟩⟩
  · exact absurd rfl h0
  have B2 := hid (B1.out.trans (b2.mono B1.out.size))
  obtain ⟨gp, cap, hfr⟩ := fr_of hf GD.out.pos
  have RW := hid (rows_any _ gp cap ns bs w2 hfr GD.out)
  clear C b2 hf hfr B1
  generalize w1.heap.size = F at *
  go_wp2_with fail
  refine RW.out.mono ?_
  rintro e w3 ⟨R, vs, rfl, h, hLS, hM, hb3⟩
  have B3 := hid (B2.out.trans (hb3.mono B2.out.size))
  have HBW := hid (HB0.out.trans (B3.out.mono HB0.out.size))
  have I1 := J1.out.below B3.out
  have I2 := hid (J2.out.below B3.out)
  have I3 := hid (J3.out.below B3.out)
  have T3 := T0.out.below B3.out (by simp)
  have hGl : w.heap.size < w3.heap.size := by
    have := B3.out.size
    simp only [World.size_alloc] at this
    omega
  have x0 := T3.c0
  have x1 := T3.c1
  have x2 := T3.c2
  have HLIV := hid hLS
  have hM0 := live_pos GD.out hLS
  obtain ⟨gl, ol, e, hgl, hlc⟩ := I1.hcell (by omega)
  subst e
  have HLT := hid (fun k (hk : k < l1) => (by
    have h9 := allL_at HAL.out (j := k) (by rw [HLL.out]; exact hk)
    have h8 := isL_iff.1 h9
    exact ⟨by unfold gLt; omega, by
      have h7 := hlc k hk
      unfold gLt
      rw [Int.toNat_of_nonneg h8.1]
      exact h7⟩ : gLt zs k < 8 ∧ w3.cell? ⟨gl, ol + k, none⟩ = some (.int .i64 ((gLt zs k : Nat) : Int))))
  clear RW hb3 B2 B3 HB0 J1 J2 J3 T0 T3 I1 hlc hLS
  obtain ⟨v1, ca1, ao1, cap1, rfl, hsc, hrow⟩ := h.c1
  obtain ⟨v2, ca2, ao2, cap2, rfl, htc, htow⟩ := h.c2
  obtain ⟨gs, rfl, hgs, hsets⟩ := hrow hM0
  obtain ⟨gt, rfl, hgt, htos⟩ := htow hM0
  have hR := h.lt
  have r0 := h.c0
  have hle := GD.out.le
  have HRM := hid h
  have HSETS := hid hsets
  have HTOS := hid htos
  have HEN := hid (fun W P' (hn : NetM W P' (l1 * vs.length) (ckF ns vs (gLt zs) (gEd zss) l1) ns.length (kpF ns vs)) => endless_net turned_c P' _ ns.length _ _ W hn (Nat.mul_pos (by omega) hM0) (fun a ha b hb => prod_lt (ck_prod ns vs (gLt zs) (gEd zss) (fun i hi => (HLT.out i hi).1)) ha hb)
      (fun a ha => Nat.le_trans (ckTo_len ns vs _ _ _ _ l1) (Nat.le_trans (Nat.mul_le_mul g6 hM) (by omega))) (fun a ha j => Nat.le_trans (ckTo_count ns vs _ _ _ _ j l1) (by omega)) (Nat.le_trans (Nat.mul_le_mul g6 hM) (by omega)) (by omega))
  obtain ⟨i0, hi, hz0, hz1, hz2⟩ := info_parts Try.infoIntE
  obtain ⟨i1, hi1, hz01, hz11, hz21⟩ := info_parts Try.infoIntL
  obtain ⟨i2b, hi2, hz02, hz12, hz22⟩ := info_parts Try.infoBool
  obtain ⟨i3, hi3, hz03, hz13, hz23⟩ := info_parts Try.infoBoolL
  have RD := hid (fun (W : World) (b : Nat) (S : Nat → Bool) (a : Nat) (ha : a < 8) (h1 : Below w3.heap.size w3 W) (h2 : Rb W b ns.length S) => read_set F gp cap b ns.length ns bs S W a ha (h.fr.below h1) h2 GD.out (Nat.le_refl _))
  have KD := hid (fun (W : World) (b : Nat) (S : Nat → Bool) (p : Nat) (hp : p < ns.length) (h1 : Below w3.heap.size w3 W) (h2 : Rb W b ns.length S) => kept_set F gp cap b ns.length ns bs S W p hp (h.fr.below h1) h2 GD.out (Nat.le_refl _))
  have WH := hid (fun (W : World) (h1 : Below w3.heap.size w3 W) => whole_any R F gp cap ns bs vs false W (h.below h1) GD.out hM)
  have hl6 := g6
  clear h hsets htos hrow htow
  generalize hGG : w.heap.size = G at *
  go_wp2_with fail
  have ba := hid ((Below.refl w3.heap.size w3).alloc (Nat.le_refl _) (.cells #[.slice none 0 0, .slice none 0 0] 102))
  have T1 := hid (two_new w3 (.slice none 0 0) (.slice none 0 0) 102)
  go_loopw [12] (fun i wq => ∃ (k : Nat) (vT : Value) (V : Nat → Value), k ≤ l1 ∧ i = .int .i64 k ∧ Hid (Two wq w3.heap.size vT (.slice none 0 0)) ∧ Hid (Rws wq (w3.heap.size + 1) 22 3 vT (k * vs.length) V (fun q => nInts (ckF ns vs (gLt zs) (gEd zss) l1 q))) ∧ Hid (Below w3.heap.size w3 wq) ∧ w3.heap.size + 1 ≤ wq.heap.size) (fun i _ => l1 - (intOf i).toNat)
  case atStart => exact ⟨0, _, fun _ => .slice none 0 0, Nat.zero_le _, rfl, T1, by rw [Nat.zero_mul]; exact hid (rws_nil _ _ _ _ _ _), ba, by simp⟩
  case round =>
    obtain ⟨k, vT, V, hk, rfl, HT, HV, HB, hsz⟩ := hrel
    rename World => W0
    clear ba T1
    have f0' := (HB.out.cell (p := ⟨G, 0, none⟩) hGl).trans x0
    by_cases hlk : k < l1
    · go_wp2_with fail
      go_loopw [13] (fun i wq => ∃ (i' : Nat) (vT : Value) (V : Nat → Value), i' ≤ vs.length ∧ i = .int .i64 i' ∧ Hid (Two wq w3.heap.size vT (.slice none 0 0)) ∧ Hid (Rws wq (w3.heap.size + 1) 22 3 vT (k * vs.length + i') V (fun q => nInts (ckF ns vs (gLt zs) (gEd zss) l1 q))) ∧ Hid (Below w3.heap.size w3 wq) ∧ w3.heap.size + 1 ≤ wq.heap.size) (fun i _ => vs.length - (intOf i).toNat)
      case atStart => exact ⟨0, _, V, Nat.zero_le _, rfl, HT, HV, HB, hsz⟩
      case round =>
        obtain ⟨i', vT, V, hi', rfl, HT, HV, HB, hsz⟩ := hrel
        rename World => W1
        clear f0'
        by_cases hli : i' < vs.length
        · obtain ⟨b, cb, hrb⟩ := HSETS.out i' hli
          have x0' := (HB.out.cell (p := ⟨G, 0, none⟩) hGl).trans x0
          have lk' := (HB.out.cell (p := ⟨gl, ol + k, none⟩) hgl).trans (HLT.out k hlk).2
          have ca1' := (HB.out.cell (p := ⟨R, 1, none⟩) hR).trans ca1
          have cb' := (HB.out.cell (p := ⟨gs, i', none⟩) hgs).trans cb
          have C := fun m => RD.out (W1.drewN m) b (mOf vs i') (gLt zs k) (HLT.out k hlk).1 (below_drewN HB.out m) ((hrb.below HB.out).drewN m)
          have HSY := hid (fun y => ckA_yes ns vs (gLt zs) (gEd zss) (k := k) (i := i') (y := y))
          have HSN := hid (fun y => ckA_no ns vs (gLt zs) (gEd zss) (k := k) (i := i') (y := y))
          have HNO := hid (ckTo_none ns vs (gLt zs) (gEd zss) (k := k) (i := i'))
          have ik1 : (0 : Int) ≤ (k : Int) := by omega
          have ik2 : (k : Int) < (l1 : Int) := by omega
          clear cb hrb
          generalize readB' ns (mOf vs i') (gLt zs k) = rv at *
          go_wp2_with fail
          go_quiet ((go_at_call 49; exact Calls.quiet_of_same (C _)))
          have HB3 := hid (below_drewN HB.out nq)
          have bq := below_drewN (Below.refl W1.heap.size W1) nq
          have HT3 := hid (HT.out.below bq HT.out.lt)
          have HV3 := hid (HV.out.keeps bq)
          have hsz3 : w3.heap.size + 1 ≤ (W1.drewN nq).heap.size := hsz
          clear C x0' lk' ca1' cb' bq HT HV HB hsz
          generalize W1.drewN nq = W2 at *
          have HVB := hid (fun q (hq : q < k * vs.length + i') z (h : (V q).ownBlock = some z) => ((HV3.out.row q hq).lt z h).2)
          obtain ⟨rT, cT, aoT, capT, e, hcapT, htr⟩ := HTOS.out i' hli
          subst e
          have HCT := hid cT
          have HTR := hid htr
          have hTl0 := toS_len ns vs i'
          have HTB := hid (fun b => toS_lt (ns := ns) (vs := vs) (i := i') (b := b))
          clear cT htr
          generalize hlnE : (toS ns vs i').length = ln at *
          have HLN := hid hlnE
          clear hlnE
          go_wp2_with fail
          go_loopw [14, 16] (fun to i wq => ∃ y : Nat, y ≤ l1 ∧ i = .int .i64 y ∧ Hid (IRow wq W2.heap.size to (ckTo ns vs (gLt zs) (gEd zss) k i' y)) ∧ Hid (Two wq w3.heap.size vT (.slice none 0 0)) ∧ Hid (Rws wq (w3.heap.size + 1) 22 3 vT (k * vs.length + i') V (fun q => nInts (ckF ns vs (gLt zs) (gEd zss) l1 q))) ∧ Hid (Below w3.heap.size w3 wq) ∧ W2.heap.size ≤ wq.heap.size) (fun _ i _ => l1 - (intOf i).toNat)
          case atStart => exact ⟨0, by omega, rfl, hid (World.ownsRow_nil _ _ _ _), HT3, HV3, HB3, Nat.le_refl _⟩
          case round =>
            obtain ⟨y, hy, rfl, HL, HT, HV, HB, hsW⟩ := hrel
            rename World => W3
            clear HT3 HV3 HB3
            have x0' := (HB.out.cell (p := ⟨G, 0, none⟩) hGl).trans x0
            by_cases hly : y < l1
            · cases rv with
              | false =>
                have hsl : ckTo ns vs (gLt zs) (gEd zss) k i' y = ckF ns vs (gLt zs) (gEd zss) l1 (k * vs.length + i') := by rw [ckF_at ns vs (gLt zs) (gEd zss) l1 hli, HNO.out rfl, HNO.out rfl]
                rw [hsl] at HL
                unfold IRow at HL
                clear hsl
                have hql : (ckF ns vs (gLt zs) (gEd zss) l1 (k * vs.length + i')).length ≤ 2048 := by
                  rw [ckF_at ns vs (gLt zs) (gEd zss) l1 hli]
                  exact Nat.le_trans (ckTo_len ns vs (gLt zs) (gEd zss) k i' l1) (Nat.le_trans (Nat.mul_le_mul hl6 hM) (by omega))
                have hkm : k * vs.length + i' < 6 * 256 := Nat.lt_of_lt_of_le (pm_lt (show k < 6 by omega) hli) (Nat.mul_le_mul_left _ hM)
                have HQE : Hid (k * vs.length + (i' + 1) = (k * vs.length + i') + 1) := hid rfl
                generalize hqE : k * vs.length + i' = qq at *
                generalize hLE : ckF ns vs (gLt zs) (gEd zss) l1 qq = L at *
                obtain ⟨aoL, cpL, rfl⟩ := own_slice HL.out
                obtain ⟨aoN, cpN, rfl⟩ := own_slice HV.out.out
                have k0 := HT.out.c0
                have b6 := (Below.refl W3.heap.size W3).alloc (Nat.le_refl _) (.cells #[.slice aoL L.length cpL] 22)
                go_wp2_with (at_builtin; go_must (refine wpList_append_lies _ rfl (.tmp 125) (.tmp 127) 33 rfl (w3.heap.size + 1) 22 i1 (.slice none 0 0) 1 24 Try.underlying33 hi1 hz01 hz11 hz21 rfl (by decide) _ qq ((List.range qq).map V) rfl (HV.out.out.alloc _) ⟨W3.heap.size, 0, none⟩ 1 1 [.slice aoL L.length cpL] rfl rfl (cells_put W3 [.slice aoL L.length cpL] _) (by intro y9 hy9; simp at hy9; rcases hy9 with rfl; rfl) (by decide) (by unfold maxLen; omega) (by omega) (by simp; omega) (W3.heap.size + 1) (by simp) ?_))
                intro gg cc w7 hown hgrow hat hlt7
                have hs7 : W3.heap.size ≤ w7.heap.size := by
                  have := hgrow.size
                  simp at this
                  omega
                have hTl := HT.out.lt
                have hNT : (Value.slice aoN qq cpN).ownBlock ≠ some w3.heap.size := fun e => by have := (HV.out.out.lt _ e).1; omega
                have bT := hgrow.block w3.heap.size (by rw [World.size_alloc]; omega) (fun e => hNT e.symm)
                have hT6 := HT.out.below b6 hTl
                have T7 : Two w7 w3.heap.size (.slice aoN qq cpN) (.slice none 0 0) := ⟨(World.cell?_of_block (a := ⟨w3.heap.size, 0, none⟩) bT).trans hT6.c0, (World.cell?_of_block (a := ⟨w3.heap.size, 1, none⟩) bT).trans hT6.c1, (World.frozen?_of_block (a := ⟨w3.heap.size, 0, none⟩) bT).trans hT6.f0, (World.frozen?_of_block (a := ⟨w3.heap.size, 1, none⟩) bT).trans hT6.f1⟩
                have OLa := (own_mono HL.out (show w3.heap.size + 1 ≤ W2.heap.size by omega)).alloc (.cells #[.slice aoL L.length cpL] 22)
                have V7 := rws_push (HV.out.keeps b6) (x := .slice aoL L.length cpL) (by rw [hLE, nInts_len]; exact OLa) (by decide) hgrow hown
                have q0 := T7.c0
                have q1 := T7.f0
                have D1 := hid (T7.set0 (.slice (some ⟨gg, 0, none⟩) (qq + 1) cc))
                have D2 := hid (V7.set (show w3.heap.size < w3.heap.size + 1 by omega) 0 (.slice (some ⟨gg, 0, none⟩) (qq + 1) cc))
                have D4 := hid (((HB.out.alloc HB.out.size (.cells #[.slice aoL L.length cpL] 22)).grown hgrow (by simp; omega) (fun q h => by have := (HV.out.out.lt q h).1; omega)).setCell (p := ⟨w3.heap.size, 0, none⟩) (Nat.le_refl _) (.slice (some ⟨gg, 0, none⟩) (qq + 1) cc))
                clear hown hgrow hat b6 HL HT HV HB OLa T7 V7 hNT bT hT6
                go_wp2_with fail
                go_roundw
                case rel => exact ⟨i' + 1, _, _, by omega, by go_num, D1, by rw [HQE.out]; exact D2, D4, by simp; omega⟩
                case measure => simp [intOf]; omega
              | true =>
                have x1' := (HB.out.cell (p := ⟨G, 1, none⟩) hGl).trans x1
                have x2' := (HB.out.cell (p := ⟨G, 2, none⟩) hGl).trans x2
                have EG := hid (redge_any (some ⟨gl, ol, none⟩) a2 a3 l1 c1 l1 c2 l3 c3 zss W3 k y (I2.out.below HB.out) hlk)
                have HSS := hid (ckTo_succ ns vs (gLt zs) (gEd zss) k i' y)
                have HSY2 := hid (HSY.out y)
                have HSN2 := hid (HSN.out y)
                have hlen2 : (ckTo ns vs (gLt zs) (gEd zss) k i' y).length ≤ 1536 := Nat.le_trans (ckTo_len ns vs (gLt zs) (gEd zss) k i' y) (Nat.le_trans (Nat.mul_le_mul (show y ≤ 6 by omega) hM) (by omega))
                generalize gEd zss k y = ev at *
                go_wp2_with fail
                refine EG.out.mono ?_
                rintro e W4 ⟨rfl, hb4⟩
                have HL3 := hid (own_keeps HL.out hb4)
                have HT3 := hid (HT.out.below hb4 HT.out.lt)
                have HV3 := hid (HV.out.keeps hb4)
                have HB3 := hid (HB.out.trans (hb4.mono HB.out.size))
                have hsW3 : W2.heap.size ≤ W4.heap.size := Nat.le_trans hsW hb4.size
                clear EG hb4 HL HT HV HB hsW x0' x1' x2'
                have hpr : y * vs.length ≤ 6 * 256 := Nat.mul_le_mul (by omega) hM
                have wm : IntKind.i64.wrap ((y : Int) * (vs.length : Int)) = ((y * vs.length : Nat) : Int) := by
                  rw [IntKind.wrap_i64, ← Int.natCast_mul]; omega
                generalize hprE : y * vs.length = pr at *
                have HPR := hid hprE
                clear hprE
                go_wp2_with fail
                go_loopw [14, 18] (fun to i wq => ∃ j : Nat, j ≤ ln ∧ i = .int .i64 j ∧ Hid (ev = true ∨ j = 0) ∧ Hid (IRow wq W2.heap.size to (ckJ ns vs (gLt zs) (gEd zss) k i' y pr j)) ∧ Hid (Two wq w3.heap.size vT (.slice none 0 0)) ∧ Hid (Rws wq (w3.heap.size + 1) 22 3 vT (k * vs.length + i') V (fun q => nInts (ckF ns vs (gLt zs) (gEd zss) l1 q))) ∧ Hid (Below w3.heap.size w3 wq) ∧ W2.heap.size ≤ wq.heap.size) (fun _ i _ => ln - (intOf i).toNat)
                case atStart => exact ⟨0, Nat.zero_le _, rfl, hid (Or.inr rfl), hid (by unfold IRow ckJ; simpa [IRow] using HL3.out), HT3, HV3, HB3, hsW3⟩
                case round =>
                  obtain ⟨j, hj, rfl, hcond, HL, HT, HV, HB, hsW⟩ := hrel
                  rename World => W5
                  clear HL3 HT3 HV3 HB3 hsW3
                  have t2 := (HB.out.cell (p := ⟨R, 2, none⟩) hR).trans ca2
                  have t3 := (HB.out.cell (p := ⟨gt, i', none⟩) hgt).trans HCT.out
                  have fin : ¬ (j < ln ∧ ev = true) → Hid (ckTo ns vs (gLt zs) (gEd zss) k i' (y + 1) = ckJ ns vs (gLt zs) (gEd zss) k i' y pr j) := fun hno => hid (by
                    rw [HSS.out]
                    unfold ckJ
                    congr 1
                    by_cases c : ev = true
                    · rw [HSY2.out ⟨by first | rfl | trivial, c⟩, List.take_of_length_le (by rw [HLN.out]; exact Nat.le_of_not_lt fun h => hno ⟨h, c⟩)]
                    · rcases hcond.out with h | h
                      · exact absurd h c
                      · rw [h, HSN2.out (fun h => c h.2)]
                        rfl)
                  by_cases hlj : j < ln
                  · cases ev with
                    | false =>
                      have FN := fin (by simp)
                      rw [← FN.out] at HL
                      clear fin FN hcond
                      go_wp2_with fail
                      go_roundw
                      case rel => exact ⟨y + 1, by omega, by go_num, HL, HT, HV, HB, hsW⟩
                      case measure => simp [intOf]; omega
                    | true =>
                      obtain ⟨gr, e, hgr, hrr⟩ := HTR.out (by omega)
                      subst e
                      obtain ⟨t, ht⟩ : ∃ t, (toS ns vs i')[j]? = some t := ⟨(toS ns vs i')[j]'(by rw [HLN.out]; exact hlj), List.getElem?_eq_getElem (by rw [HLN.out]; exact hlj)⟩
                      have htM := HTB.out t (List.mem_of_getElem? ht)
                      have hat : atN (toS ns vs i') j = t := by simp [atN, List.getD, ht]
                      have t4 : W5.cell? ⟨gr, j, none⟩ = some (.int .i64 (t : Nat)) := (HB.out.cell (p := ⟨gr, j, none⟩) hgr).trans (by have h9 := hrr j hlj; rw [hat] at h9; exact h9)
                      have HTK : Hid ((toS ns vs i').take (j + 1) = (toS ns vs i').take j ++ [t]) := hid (by rw [List.take_add_one, ht]; rfl)
                      have wa : IntKind.i64.wrap ((pr : Int) + (t : Int)) = (pr : Int) + (t : Int) := by rw [IntKind.wrap_i64]; omega
                      have htk : ((toS ns vs i').take j).length = j := by rw [List.length_take, HLN.out]; omega
                      have hLl : (ckJ ns vs (gLt zs) (gEd zss) k i' y pr j).length ≤ 2048 + 256 := by unfold ckJ; rw [List.length_append, List.length_map, htk]; omega
                      clear fin hrr ht hat htk
                      generalize hLE : ckJ ns vs (gLt zs) (gEd zss) k i' y pr j = L at *
                      unfold IRow at HL
                      obtain ⟨aoL, cpL, rfl⟩ := own_slice HL.out
                      have HLB := hid (fun q h => (HL.out.lt q h).1)
                      go_wp2_with (at_builtin; go_must (refine wpList_append_lies _ rfl (.tmp 104) (.tmp 119) 22 rfl W2.heap.size 3 i0 (.int .i64 0) 1 8 Try.underlying22 hi hz0 hz1 hz2 rfl (by decide) _ L.length (nInts L) rfl (HL.out.alloc _) ⟨W5.heap.size, 0, none⟩ 1 1 [.int .i64 ((pr : Int) + (t : Int))] rfl rfl (cells_put W5 [.int .i64 ((pr : Int) + (t : Int))] _) (by intro y hy; simp at hy; rcases hy with rfl; rfl) (by decide) (by unfold maxLen; omega) (by omega) (by simp; omega) (W5.heap.size + 1) (by simp) ?_))
                      intro gg cc w7 hown hgrow hat hlt7
                      have b6 := (Below.refl W5.heap.size W5).alloc (Nat.le_refl _) (.cells #[.int .i64 ((pr : Int) + (t : Int))] 3)
                      have hs7 : W5.heap.size ≤ w7.heap.size := by
                        have := hgrow.size
                        simp at this
                        omega
                      have hLW : (Value.slice aoL L.length cpL).ownBlock ≠ some w3.heap.size := fun e => by have := HLB.out _ e; omega
                      have bT := hgrow.block w3.heap.size (by rw [World.size_alloc]; have := HT.out.lt; omega) (fun e => hLW e.symm)
                      have T7 : Hid (Two w7 w3.heap.size vT (.slice none 0 0)) := hid (by
                        have hT6 := HT.out.below b6 HT.out.lt
                        exact ⟨(World.cell?_of_block (a := ⟨w3.heap.size, 0, none⟩) bT).trans hT6.c0, (World.cell?_of_block (a := ⟨w3.heap.size, 1, none⟩) bT).trans hT6.c1, (World.frozen?_of_block (a := ⟨w3.heap.size, 0, none⟩) bT).trans hT6.f0, (World.frozen?_of_block (a := ⟨w3.heap.size, 1, none⟩) bT).trans hT6.f1⟩)
                      have V7 := hid ((HV.out.keeps b6).keptI hgrow (own_ne' (HV.out.keeps b6).out (HL.out.alloc (.cells #[.int .i64 ((pr : Int) + (t : Int))] 3)) (by decide)) (fun q hq => by
                        cases hv : (V q).ownBlock with
                        | none => exact Or.inl rfl
                        | some z =>
                          refine Or.inr fun e => ?_
                          have h1 := HLB.out z e.symm
                          have h2 := HVB.out q hq z hv
                          omega))
                      have L7 : Hid (IRow w7 W2.heap.size (.slice (some ⟨gg, 0, none⟩) (L.length + 1) cc) (ckJ ns vs (gLt zs) (gEd zss) k i' y pr (j + 1))) := hid (by
                        have hLE' : ckTo ns vs (gLt zs) (gEd zss) k i' y ++ ((toS ns vs i').take j).map (fun q => pr + q) = L := hLE
                        unfold IRow ckJ
                        rw [HTK.out, List.map_append, ← List.append_assoc, hLE', List.length_append, show nInts (L ++ List.map (fun j => pr + j) [t]) = nInts L ++ [.int .i64 ((pr : Int) + (t : Int))] by simp [nInts]]
                        exact hown)
                      have HB7 := hid ((HB.out.alloc (by omega) (.cells #[.int .i64 ((pr : Int) + (t : Int))] 3)).grown hgrow (by simp; omega) (fun q h => by have := HLB.out q h; omega))
                      clear hown hgrow hat b6 bT HL HT HV HB hLW
                      go_wp2_with fail
                      go_roundw
                      case rel => exact ⟨j + 1, by omega, by go_num, hid (Or.inl (by first | rfl | trivial)), L7, T7, V7, HB7, by omega⟩
                      case measure => simp [intOf]; omega
                  · have FN := fin (fun h => hlj h.1)
                    rw [← FN.out] at HL
                    obtain rfl : j = ln := by omega
                    clear fin FN hcond
                    go_wp2_with fail
                    go_roundw
                    case rel => exact ⟨y + 1, by omega, by go_num, HL, HT, HV, HB, hsW⟩
                    case measure => simp [intOf]; omega
            · obtain rfl : y = l1 := by omega
              have hsl : ckTo ns vs (gLt zs) (gEd zss) k i' y = ckF ns vs (gLt zs) (gEd zss) y (k * vs.length + i') := by rw [ckF_at ns vs (gLt zs) (gEd zss) y hli]
              rw [hsl] at HL
              unfold IRow at HL
              clear hsl
              have hql : (ckF ns vs (gLt zs) (gEd zss) y (k * vs.length + i')).length ≤ 2048 := by
                rw [ckF_at ns vs (gLt zs) (gEd zss) y hli]
                exact Nat.le_trans (ckTo_len ns vs (gLt zs) (gEd zss) k i' y) (Nat.le_trans (Nat.mul_le_mul hl6 hM) (by omega))
              have hkm : k * vs.length + i' < 6 * 256 := Nat.lt_of_lt_of_le (pm_lt (show k < 6 by omega) hli) (Nat.mul_le_mul_left _ hM)
              have HQE : Hid (k * vs.length + (i' + 1) = (k * vs.length + i') + 1) := hid rfl
              generalize hqE : k * vs.length + i' = qq at *
              generalize hLE : ckF ns vs (gLt zs) (gEd zss) y qq = L at *
              obtain ⟨aoL, cpL, rfl⟩ := own_slice HL.out
              obtain ⟨aoN, cpN, rfl⟩ := own_slice HV.out.out
              have k0 := HT.out.c0
              have b6 := (Below.refl W3.heap.size W3).alloc (Nat.le_refl _) (.cells #[.slice aoL L.length cpL] 22)
              go_wp2_with (at_builtin; go_must (refine wpList_append_lies _ rfl (.tmp 125) (.tmp 127) 33 rfl (w3.heap.size + 1) 22 i1 (.slice none 0 0) 1 24 Try.underlying33 hi1 hz01 hz11 hz21 rfl (by decide) _ qq ((List.range qq).map V) rfl (HV.out.out.alloc _) ⟨W3.heap.size, 0, none⟩ 1 1 [.slice aoL L.length cpL] rfl rfl (cells_put W3 [.slice aoL L.length cpL] _) (by intro y9 hy9; simp at hy9; rcases hy9 with rfl; rfl) (by decide) (by unfold maxLen; omega) (by omega) (by simp; omega) (W3.heap.size + 1) (by simp) ?_))
              intro gg cc w7 hown hgrow hat hlt7
              have hs7 : W3.heap.size ≤ w7.heap.size := by
                have := hgrow.size
                simp at this
                omega
              have hTl := HT.out.lt
              have hNT : (Value.slice aoN qq cpN).ownBlock ≠ some w3.heap.size := fun e => by have := (HV.out.out.lt _ e).1; omega
              have bT := hgrow.block w3.heap.size (by rw [World.size_alloc]; omega) (fun e => hNT e.symm)
              have hT6 := HT.out.below b6 hTl
              have T7 : Two w7 w3.heap.size (.slice aoN qq cpN) (.slice none 0 0) := ⟨(World.cell?_of_block (a := ⟨w3.heap.size, 0, none⟩) bT).trans hT6.c0, (World.cell?_of_block (a := ⟨w3.heap.size, 1, none⟩) bT).trans hT6.c1, (World.frozen?_of_block (a := ⟨w3.heap.size, 0, none⟩) bT).trans hT6.f0, (World.frozen?_of_block (a := ⟨w3.heap.size, 1, none⟩) bT).trans hT6.f1⟩
              have OLa := (own_mono HL.out (show w3.heap.size + 1 ≤ W2.heap.size by omega)).alloc (.cells #[.slice aoL L.length cpL] 22)
              have V7 := rws_push (HV.out.keeps b6) (x := .slice aoL L.length cpL) (by rw [hLE, nInts_len]; exact OLa) (by decide) hgrow hown
              have q0 := T7.c0
              have q1 := T7.f0
              have D1 := hid (T7.set0 (.slice (some ⟨gg, 0, none⟩) (qq + 1) cc))
              have D2 := hid (V7.set (show w3.heap.size < w3.heap.size + 1 by omega) 0 (.slice (some ⟨gg, 0, none⟩) (qq + 1) cc))
              have D4 := hid (((HB.out.alloc HB.out.size (.cells #[.slice aoL L.length cpL] 22)).grown hgrow (by simp; omega) (fun q h => by have := (HV.out.out.lt q h).1; omega)).setCell (p := ⟨w3.heap.size, 0, none⟩) (Nat.le_refl _) (.slice (some ⟨gg, 0, none⟩) (qq + 1) cc))
              clear hown hgrow hat b6 HL HT HV HB OLa T7 V7 hNT bT hT6
              go_wp2_with fail
              go_roundw
              case rel => exact ⟨i' + 1, _, _, by omega, by go_num, D1, by rw [HQE.out]; exact D2, D4, by simp; omega⟩
              case measure => simp [intOf]; omega
        · obtain rfl : i' = vs.length := by omega
          have HQS : Hid ((k + 1) * vs.length = k * vs.length + vs.length) := hid (Nat.succ_mul _ _)
          go_wp2_with fail
          go_roundw
          case rel => exact ⟨k + 1, vT, V, by omega, by go_num, HT, by rw [HQS.out]; exact HV, HB, hsz⟩
          case measure => simp [intOf]; omega
    · obtain rfl : k = l1 := by omega
      have HFR := hid HRM.out.fr
      have hF := HFR.out.lt0
      have fr0 := HFR.out.c0
      have hkM : k * vs.length ≤ 6 * 256 := Nat.mul_le_mul g6 hM
      go_wp2_with fail
      clear f0'
      go_loopw [19] (fun i wq => ∃ (p : Nat) (vK : Value) (U : Nat → Value), p ≤ ns.length ∧ i = .int .i64 p ∧ Hid (Two wq w3.heap.size vT vK) ∧ Hid (Rws wq (w3.heap.size + 1) 22 3 vT (k * vs.length) V (fun q => nInts (ckF ns vs (gLt zs) (gEd zss) k q))) ∧ Hid (Rws wq (w3.heap.size + 1) 104 4 vK p U (fun q => outTo (kpF ns vs q) (k * vs.length) (k * vs.length))) ∧ Hid (Below w3.heap.size w3 wq) ∧ w3.heap.size + 1 ≤ wq.heap.size) (fun i _ => ns.length - (intOf i).toNat)
      case atStart => exact ⟨0, _, fun _ => .slice none 0 0, Nat.zero_le _, rfl, HT, HV, hid (rws_nil _ _ _ _ _ _), HB, hsz⟩
      case round =>
        obtain ⟨p, vK, U, hp, rfl, HT, HV, HU, HB, hsz⟩ := hrel
        rename World => W1
        have r0' := (HB.out.cell (p := ⟨R, 0, none⟩) hR).trans r0
        have fr0' := (HB.out.cell (p := ⟨F, 0, none⟩) hF).trans fr0
        by_cases hlp : p < ns.length
        · have HUB := hid (fun q (hq : q < p) z (h : (U q).ownBlock = some z) => ((HU.out.row q hq).lt z h).2)
          go_wp2_with fail
          go_loopw [20, 21] (fun kept i wq => ∃ k2 : Nat, k2 ≤ k ∧ i = .int .i64 k2 ∧ Hid (wq.ownsRow W1.heap.size 4 1 kept (k2 * vs.length) (outTo (kpF ns vs p) (k2 * vs.length) (k2 * vs.length))) ∧ Hid (Two wq w3.heap.size vT vK) ∧ Hid (Rws wq (w3.heap.size + 1) 22 3 vT (k * vs.length) V (fun q => nInts (ckF ns vs (gLt zs) (gEd zss) k q))) ∧ Hid (Rws wq (w3.heap.size + 1) 104 4 vK p U (fun q => outTo (kpF ns vs q) (k * vs.length) (k * vs.length))) ∧ Hid (Below w3.heap.size w3 wq) ∧ W1.heap.size ≤ wq.heap.size) (fun _ i _ => k - (intOf i).toNat)
          case atStart => exact ⟨0, Nat.zero_le _, rfl, by rw [Nat.zero_mul]; exact hid (World.ownsRow_nil _ _ _ _), HT, HV, HU, HB, Nat.le_refl _⟩
          case round =>
            obtain ⟨k2, hk2, rfl, HL, HT, HV, HU, HB, hsW⟩ := hrel
            rename World => W2
            clear r0' fr0'
            have f0' := (HB.out.cell (p := ⟨G, 0, none⟩) hGl).trans x0
            by_cases hlk2 : k2 < k
            · go_wp2_with fail
              clear f0'
              go_loopw [20, 22] (fun kept i wq => ∃ i2 : Nat, i2 ≤ vs.length ∧ i = .int .i64 i2 ∧ Hid (wq.ownsRow W1.heap.size 4 1 kept (k2 * vs.length + i2) (outTo (kpF ns vs p) (k2 * vs.length + i2) (k2 * vs.length + i2))) ∧ Hid (Two wq w3.heap.size vT vK) ∧ Hid (Rws wq (w3.heap.size + 1) 22 3 vT (k * vs.length) V (fun q => nInts (ckF ns vs (gLt zs) (gEd zss) k q))) ∧ Hid (Rws wq (w3.heap.size + 1) 104 4 vK p U (fun q => outTo (kpF ns vs q) (k * vs.length) (k * vs.length))) ∧ Hid (Below w3.heap.size w3 wq) ∧ W1.heap.size ≤ wq.heap.size) (fun _ i _ => vs.length - (intOf i).toNat)
              case atStart => exact ⟨0, Nat.zero_le _, rfl, HL, HT, HV, HU, HB, hsW⟩
              case round =>
                obtain ⟨i2, hi2', rfl, HL, HT, HV, HU, HB, hsW⟩ := hrel
                rename World => W3
                by_cases hli2 : i2 < vs.length
                · obtain ⟨b, cb, hrb⟩ := HSETS.out i2 hli2
                  have r0' := (HB.out.cell (p := ⟨R, 0, none⟩) hR).trans r0
                  have ca1' := (HB.out.cell (p := ⟨R, 1, none⟩) hR).trans ca1
                  have cb' := (HB.out.cell (p := ⟨gs, i2, none⟩) hgs).trans cb
                  have C := KD.out W3 b (mOf vs i2) p hlp HB.out (hrb.below HB.out)
                  have hlq : k2 * vs.length + i2 < 6 * 256 := Nat.lt_of_lt_of_le (pm_lt (show k2 < 6 by omega) hli2) (Nat.mul_le_mul_left _ hM)
                  have HKP : Hid (kpF ns vs p (k2 * vs.length + i2) = keptN (ndAt ns p) p (mOf vs i2)) := hid (by unfold kpF; rw [pm_mod hli2]; rfl)
                  clear cb hrb
                  generalize keptN (ndAt ns p) p (mOf vs i2) = kv at *
                  go_wp2_with fail
                  refine C.mono ?_
                  rintro e W4 ⟨rfl, e4⟩
                  rw [← e4] at HB HL HT HV HU hsW
                  have HB3 := HB
                  have HL3 := HL
                  have HT3 := HT
                  have HV3 := HV
                  have HU3 := HU
                  have hsW3 := hsW
                  clear C r0' ca1' cb' HL HT HV HU HB hsW e4
                  have HQE : Hid (k2 * vs.length + (i2 + 1) = (k2 * vs.length + i2) + 1) := hid rfl
                  generalize hqE : k2 * vs.length + i2 = qq at *
                  obtain ⟨aoL, cpL, rfl⟩ := own_slice HL3.out
                  have HLB := hid (fun q h => (HL3.out.lt q h).1)
                  go_wp2_with (at_builtin; go_must (refine wpList_append_lies _ rfl (.tmp 162) (.tmp 164) 104 rfl W1.heap.size 4 i2b (.bool false) 1 1 Try.underlying104 hi2 hz02 hz12 hz22 rfl (by decide) _ qq (outTo (kpF ns vs p) qq qq) rfl (HL3.out.alloc _) ⟨W4.heap.size, 0, none⟩ 1 1 [.bool kv] rfl rfl (cells_put W4 [.bool kv] _) (by intro y hy; simp at hy; rcases hy with rfl; rfl) (by decide) (by unfold maxLen; omega) (by omega) (by simp; omega) (W4.heap.size + 1) (by simp) ?_))
                  intro gg cc w7 hown hgrow hat hlt7
                  have b6 := (Below.refl W4.heap.size W4).alloc (Nat.le_refl _) (.cells #[.bool kv] 4)
                  have hs7 : W4.heap.size ≤ w7.heap.size := by
                    have := hgrow.size
                    simp at this
                    omega
                  have hLW : (Value.slice aoL qq cpL).ownBlock ≠ some w3.heap.size := fun e => by have := HLB.out _ e; omega
                  have hTl := HT3.out.lt
                  have bT := hgrow.block w3.heap.size (by rw [World.size_alloc]; omega) (fun e => hLW e.symm)
                  have T7 : Hid (Two w7 w3.heap.size vT vK) := hid (by
                    have hT6 := HT3.out.below b6 hTl
                    exact ⟨(World.cell?_of_block (a := ⟨w3.heap.size, 0, none⟩) bT).trans hT6.c0, (World.cell?_of_block (a := ⟨w3.heap.size, 1, none⟩) bT).trans hT6.c1, (World.frozen?_of_block (a := ⟨w3.heap.size, 0, none⟩) bT).trans hT6.f0, (World.frozen?_of_block (a := ⟨w3.heap.size, 1, none⟩) bT).trans hT6.f1⟩)
                  have V7 := hid ((HV3.out.keeps b6).keptI hgrow (own_ne' (HV3.out.keeps b6).out (HL3.out.alloc (.cells #[.bool kv] 4)) (by decide)) (fun q hq => own_ne' ((HV3.out.keeps b6).row q hq) (HL3.out.alloc (.cells #[.bool kv] 4)) (by decide)))
                  have U7 := hid ((HU3.out.keeps b6).keptI hgrow (own_ne' (HU3.out.keeps b6).out (HL3.out.alloc (.cells #[.bool kv] 4)) (by decide)) (fun q hq => by
                    cases hv : (U q).ownBlock with
                    | none => exact Or.inl rfl
                    | some z =>
                      refine Or.inr fun e => ?_
                      have h1 := HLB.out z e.symm
                      have h2 := HUB.out q hq z hv
                      omega))
                  have L7 : Hid (w7.ownsRow W1.heap.size 4 1 (.slice (some ⟨gg, 0, none⟩) (qq + 1) cc) (qq + 1) (outTo (kpF ns vs p) (qq + 1) (qq + 1))) := hid (by
                    rw [outTo_grow, HKP.out]
                    exact hown)
                  have HB7 := hid ((HB3.out.alloc (by omega) (.cells #[.bool kv] 4)).grown hgrow (by simp; omega) (fun q h => by have := HLB.out q h; omega))
                  clear hown hgrow hat b6 bT HL3 HT3 HV3 HU3 HB3 hLW
                  go_wp2_with fail
                  go_roundw
                  case rel => exact ⟨i2 + 1, by omega, by go_num, by rw [HQE.out]; exact L7, T7, V7, U7, HB7, by omega⟩
                  case measure => simp [intOf]; omega
                · obtain rfl : i2 = vs.length := by omega
                  have HQS : Hid ((k2 + 1) * vs.length = k2 * vs.length + vs.length) := hid (Nat.succ_mul _ _)
                  go_wp2_with fail
                  go_roundw
                  case rel => exact ⟨k2 + 1, by omega, by go_num, by rw [HQS.out]; exact HL, HT, HV, HU, HB, hsW⟩
                  case measure => simp [intOf]; omega
            · obtain rfl : k2 = k := by omega
              obtain ⟨aoL, cpL, rfl⟩ := own_slice HL.out
              obtain ⟨aoN, cpN, rfl⟩ := own_slice HU.out.out
              have k0 := HT.out.c1
              have b6 := (Below.refl W2.heap.size W2).alloc (Nat.le_refl _) (.cells #[.slice aoL (k2 * vs.length) cpL] 104)
              go_wp2_with (at_builtin; go_must (refine wpList_append_lies _ rfl (.tmp 170) (.tmp 172) 100 rfl (w3.heap.size + 1) 104 i3 (.slice none 0 0) 1 24 Try.underlying100 hi3 hz03 hz13 hz23 rfl (by decide) _ p ((List.range p).map U) rfl (HU.out.out.alloc _) ⟨W2.heap.size, 0, none⟩ 1 1 [.slice aoL (k2 * vs.length) cpL] rfl rfl (cells_put W2 [.slice aoL (k2 * vs.length) cpL] _) (by intro y hy; simp at hy; rcases hy with rfl; rfl) (by decide) (by unfold maxLen; omega) (by omega) (by simp; omega) (W2.heap.size + 1) (by simp) ?_))
              intro gg cc w7 hown hgrow hat hlt7
              have hs7 : W2.heap.size ≤ w7.heap.size := by
                have := hgrow.size
                simp at this
                omega
              have hTl := HT.out.lt
              have hNT : (Value.slice aoN p cpN).ownBlock ≠ some w3.heap.size := fun e => by have := (HU.out.out.lt _ e).1; omega
              have bT := hgrow.block w3.heap.size (by rw [World.size_alloc]; omega) (fun e => hNT e.symm)
              have hT6 := HT.out.below b6 hTl
              have T7 : Two w7 w3.heap.size vT (.slice aoN p cpN) := ⟨(World.cell?_of_block (a := ⟨w3.heap.size, 0, none⟩) bT).trans hT6.c0, (World.cell?_of_block (a := ⟨w3.heap.size, 1, none⟩) bT).trans hT6.c1, (World.frozen?_of_block (a := ⟨w3.heap.size, 0, none⟩) bT).trans hT6.f0, (World.frozen?_of_block (a := ⟨w3.heap.size, 1, none⟩) bT).trans hT6.f1⟩
              have OLa := (own_mono HL.out (show w3.heap.size + 1 ≤ W1.heap.size by omega)).alloc (.cells #[.slice aoL (k2 * vs.length) cpL] 104)
              have U7 := rws_push (HU.out.keeps b6) (x := .slice aoL (k2 * vs.length) cpL) (by rw [outTo_length]; exact OLa) (by decide) hgrow hown
              have V7 := (HV.out.keeps b6).grown (HU.out.out.alloc (.cells #[.slice aoL (k2 * vs.length) cpL] 104)) hgrow (by decide) (by decide)
              have q0 := T7.c1
              have q1 := T7.f1
              have D1 := hid (T7.set1 (.slice (some ⟨gg, 0, none⟩) (p + 1) cc))
              have D2 := hid (U7.set (show w3.heap.size < w3.heap.size + 1 by omega) 1 (.slice (some ⟨gg, 0, none⟩) (p + 1) cc))
              have D3 := hid (V7.set (show w3.heap.size < w3.heap.size + 1 by omega) 1 (.slice (some ⟨gg, 0, none⟩) (p + 1) cc))
              have D4 := hid (((HB.out.alloc HB.out.size (.cells #[.slice aoL (k2 * vs.length) cpL] 104)).grown hgrow (by simp; omega) (fun q h => by have := (HU.out.out.lt q h).1; omega)).setCell (p := ⟨w3.heap.size, 1, none⟩) (Nat.le_refl _) (.slice (some ⟨gg, 0, none⟩) (p + 1) cc))
              clear hown hgrow hat b6 HL HT HV HU HB OLa T7 V7 U7 hNT bT hT6
              go_wp2_with fail
              go_roundw
              case rel => exact ⟨p + 1, _, _, by omega, by go_num, D1, D3, D2, D4, by simp; omega⟩
              case measure => simp [intOf]; omega
        · obtain rfl : p = ns.length := by omega
          have hTl := HT.out.lt
          have NM := hid (show NetM W1 w3.heap.size (k * vs.length) (ckF ns vs (gLt zs) (gEd zss) k) ns.length (kpF ns vs) from ⟨hTl, ⟨_, HT.out.c0, rws_nrs HV.out⟩, ⟨_, HT.out.c1, rws_brc (Nat.mul_pos (by omega) hM0) HU.out⟩⟩)
          clear HT HV HU
          go_wp2_with fail
          refine (HEN.out W1 w3.heap.size NM.out).mono ?_
          rintro e w5 ⟨g5, good, rfl, hg5, hBO, hgood, hb5⟩
          have HB5 := hid (HB.out.trans (hb5.mono HB.out.size))
          have HBO := hid hBO
          have HFIN : Hid ((∃ j, j < l3 ∧ ∃ i, i < vs.length ∧ mOf vs i (ns.length - 1) = false ∧ good ((ss.getD j 0).toNat * vs.length + i) = true) ↔ ¬ HoldsIn ns zs.length (gLt zs) (gEd zss) (gSt ss)) := hid (by
            rw [HLL.out, ← ck_holds GD.out HLIV.out (fun i hi => (HLT.out i hi).1) hgood, ← HLS.out]
            exact (ck_start HNU.out (P := fun k => ∃ i, i < vs.length ∧ mOf vs i (ns.length - 1) = false ∧ good (k * vs.length + i) = true)).symm)
          clear hBO hgood hb5 r0' fr0'
          go_wp2_with fail
          refine (WH.out w5 HB5.out).mono ?_
          rintro e w6 ⟨g6', rfl, hrb, hg6, hb6⟩
          have HB6 := hid (HB5.out.trans (hb6.mono HB5.out.size))
          have H6 := hid hrb
          have H5 := hid (fun i (hi : i < k * vs.length) => (hb6.cell (p := ⟨g5, i, none⟩) HBO.out.blk.2).trans (HBO.out.get hi))
          have HBE := hid (HBW.out.trans (HB6.out.mono (Nat.le_of_lt hGl)))
          clear hrb hb6 HB HB5
          have y2 := (HB6.out.cell (p := ⟨G, 2, none⟩) hGl).trans x2
          have HI3 := hid (I3.out.below HB6.out)
          go_wp2_with fail
          go_loopw [26] (fun i wq => ∃ k2 : Nat, k2 ≤ l3 ∧ i = .int .i64 k2 ∧ Hid (∀ j, j < k2 → ¬ ∃ i, i < vs.length ∧ mOf vs i (ns.length - 1) = false ∧ good ((ss.getD j 0).toNat * vs.length + i) = true) ∧ w6 = wq) (fun i _ => l3 - (intOf i).toNat)
          case atStart => exact ⟨0, Nat.zero_le _, rfl, hid (fun j h => by omega), rfl⟩
          case round =>
            obtain ⟨k2, hk2, rfl, HA, e⟩ := hrel
            subst e
            by_cases hlk2 : k2 < l3
            · obtain ⟨gz, oz, e, hgz, hzc⟩ := HI3.out.hcell (by omega)
              subst e
              have ck2 := hzc k2 hlk2
              have hst : 0 ≤ ss.getD k2 0 ∧ ss.getD k2 0 < (k : Int) := numB_iff.1 HNU.out _ (by rw [List.getD, List.getElem?_eq_getElem (by rw [HLS.out]; exact hlk2)]; exact List.getElem_mem _)
              obtain ⟨z, ez⟩ : ∃ z : Nat, ss.getD k2 0 = (z : Int) := ⟨(ss.getD k2 0).toNat, (Int.toNat_of_nonneg hst.1).symm⟩
              rw [ez] at ck2 hst
              have HZ : Hid ((ss.getD k2 0).toNat = z) := hid (by rw [ez]; rfl)
              have hzk : z < k := by omega
              clear ez hst hzc
              have j1 : (0 : Int) ≤ (k2 : Int) := by omega
              have j2 : (k2 : Int) < (l3 : Int) := by omega
              go_wp2_with fail
              go_loopw [27] (fun i wq => ∃ i2 : Nat, i2 ≤ vs.length ∧ i = .int .i64 i2 ∧ Hid (∀ j, j < i2 → ¬ (mOf vs j (ns.length - 1) = false ∧ good (z * vs.length + j) = true)) ∧ w6 = wq) (fun i _ => vs.length - (intOf i).toNat)
              case atStart => exact ⟨0, Nat.zero_le _, rfl, hid (fun j h => by omega), rfl⟩
              case round =>
                obtain ⟨i2, hi2', rfl, HA1, e⟩ := hrel
                subst e
                by_cases hli2 : i2 < vs.length
                · have c6 := H6.out.cell i2 hli2
                  have hzl : z * vs.length + i2 < k * vs.length := pm_lt hzk hli2
                  have c5 := H5.out (z * vs.length + i2) hzl
                  have hzM : z * vs.length ≤ 6 * 256 := Nat.mul_le_mul (by omega) hM
                  have wm : IntKind.i64.wrap ((z : Int) * (vs.length : Int)) = ((z * vs.length : Nat) : Int) := by
                    rw [IntKind.wrap_i64, ← Int.natCast_mul]; omega
                  have HA2 : Hid (((mOf vs i2 (ns.length - 1) == false) && good (z * vs.length + i2)) = false → ∀ j, j < i2 + 1 → ¬ (mOf vs j (ns.length - 1) = false ∧ good (z * vs.length + j) = true)) := hid (fun e j hj => by
                    by_cases c : j = i2
                    · subst c
                      rintro ⟨h1, h2⟩
                      rw [h1, h2] at e
                      simp at e
                    · exact HA1.out j (by omega))
                  have HY : Hid (((mOf vs i2 (ns.length - 1) == false) && good (z * vs.length + i2)) = true → ¬ HoldsIn ns zs.length (gLt zs) (gEd zss) (gSt ss)) := hid (fun e => by
                    rw [Bool.and_eq_true, beq_iff_eq] at e
                    exact HFIN.out.1 ⟨k2, hlk2, i2, hli2, e.1, by rw [HZ.out]; exact e.2⟩)
                  have HA1' := HA1
                  clear HA1 HA1'
                  generalize hgv : good (z * vs.length + i2) = gv at *
                  clear hgv
                  generalize z * vs.length = pz at *
                  have wa : IntKind.i64.wrap ((pz : Int) + (i2 : Int)) = (pz : Int) + (i2 : Int) := by rw [IntKind.wrap_i64]; omega
                  have e5 : ((pz : Int) + (i2 : Int)).toNat = pz + i2 := by omega
                  generalize hNE : k * vs.length = N at *
                  have u1 : (0 : Int) ≤ (pz : Int) + (i2 : Int) := by omega
                  have u2 : (pz : Int) + (i2 : Int) < (N : Int) := by omega
                  generalize (mOf vs i2 (ns.length - 1) == false) = fv at *
                  cases fv with
                  | false =>
                    go_wp2_with fail
                    go_roundw
                    case rel => exact ⟨i2 + 1, by omega, by go_num, hid (HA2.out rfl), trivial⟩
                    case measure => simp [intOf]; omega
                  | true =>
                    cases gv with
                    | false =>
                      go_wp2_with fail
                      go_roundw
                      case rel => exact ⟨i2 + 1, by omega, by go_num, hid (HA2.out rfl), trivial⟩
                      case measure => simp [intOf]; omega
                    | true =>
                      have HYY := hid (HY.out rfl)
                      go_wp2_with fail
                      go_ret2
                      exact KOK.out _ HBE.out false ⟨fun h => (by cases h), fun h => absurd h HYY.out⟩
                · obtain rfl : i2 = vs.length := by omega
                  have HA3 : Hid (∀ j, j < k2 + 1 → ¬ ∃ i, i < vs.length ∧ mOf vs i (ns.length - 1) = false ∧ good ((ss.getD j 0).toNat * vs.length + i) = true) := hid (fun j hj => by
                    by_cases c : j = k2
                    · subst c
                      rw [HZ.out]
                      rintro ⟨i, h1, h2⟩
                      exact HA1.out i h1 h2
                    · exact HA.out j (by omega))
                  go_wp2_with fail
                  go_roundw
                  case rel => exact ⟨k2 + 1, by omega, by go_num, HA3, trivial⟩
                  case measure => simp [intOf]; omega
            · obtain rfl : k2 = l3 := by omega
              have HYY : Hid (HoldsIn ns zs.length (gLt zs) (gEd zss) (gSt ss)) := hid (Classical.byContradiction fun h => by
                obtain ⟨j, hj, h2⟩ := HFIN.out.2 h
                exact HA.out j hj h2)
              go_wp2_with fail
              go_ret2
              exact KOK.out _ HBE.out true ⟨fun _ => HYY.out, fun _ => rfl⟩

theorem rcheck_any (hm : s.size ≤ maxLen) (h1 : Ints w a1 l1 c1 zs) (h2 : Lists w a2 l2 c2 zss) (h3 : Ints w a3 l3 c3 ss) :
    Calls Try.prog 22 #[.agg #[.slice a1 l1 c1, .slice a2 l2 c2, .slice a3 l3 c3], .string s] w (RChecked zs zss ss s w) := by
  by_cases hc : graphB zs zss ss = false ∨ (parseOf s).1 ≠ 0
  · exact rcheck_no a1 a2 a3 l1 c1 l2 c2 l3 c3 zs zss ss s w hm h1 h2 h3 hc
  · refine rcheck_yes a1 a2 a3 l1 c1 l2 c2 l3 c3 zs zss ss s w hm h1 h2 h3 ?_ ?_
    · cases e : graphB zs zss ss with
      | true => rfl
      | false => exact absurd (Or.inl e) hc
    · exact Classical.byContradiction fun h => hc (Or.inr h)
end

end Go.Proofs.Ytjagijohfkffiab
