import Derived.Test.YtjagijohfkffiabKINM01
import Derived.Test.YtjagijohfkffiabKINM23

/- The walks of evades, and the Outlook's Class. -/
namespace Go.Proofs.Ytjagijohfkffiab
open Go.RowKit
set_option linter.unusedVariables false

theorem wo_ways {out : Nat → Nat} {nx : Nat → Nat → Nat} {vd n : Nat} {tl : Nat → List (Nat × Nat)} (h : WoP out nx vd n 0 tl) (hn : n ≤ 8589934592) : WaysP n tl :=
  ⟨hn, fun t ht st hs => by obtain ⟨⟨a, b⟩, _⟩ := (h.mem t st).1 hs; exact ⟨by omega, b⟩, fun t ht => by have := h.len t; omega⟩

def EvP (ns : List Nd) (cs : List (Nat → Bool)) (beg : Nat → Bool) (out : Nat → Nat) (nx : Nat → Nat → Nat) (n vd : Nat) (hd b : Bool) : Prop :=
  ∃ tl, WoP out nx vd n 0 tl ∧ (b = true ↔ ∃ v, v < 256 ∧ Forever (Ew n ns tl) (spreads cs) v ∧ beg v = hd)

set_option maxHeartbeats 8000000 in
set_option maxRecDepth 100000 in
theorem evades_any (P g n cap vd : Nat) (hd : Bool) (ns : List Nd) (liv beg : Nat → Bool) (cs : List (Nat → Bool)) (out : Nat → Nat) (nx : Nat → Nat → Nat) (w : World) (h8 : ns.length ≤ 8) (h0 : 0 < n) (hn : n ≤ 8589934592) (ho : OutM w P ns liv beg) (hcm : CalmM w P cs) (hcl : cs.length ≤ 8) (h : StR w g n out nx) (hnx : ∀ i l, i < n → l < 8 → nx i l < n) :
    Calls Try.prog 72 #[.pointer (some ⟨P, 0, none⟩), .slice (some ⟨g, 0, none⟩) n cap, .int .i64 (vd : Nat), .bool hd] w fun e w' => ∃ b : Bool, e = .returned (.bool b) ∧ EvP ns cs beg out nx n vd hd b ∧ Below w.heap.size w w' := by
  have hP := ho.lt
  have HO := hid ho
  have HC := hid hcm
  have WA := hid (without_any g n cap vd out nx w h0 hn h hnx)
  clear ho hcm h hnx
  have kn : ((n : Int) == 0) = false := beq_eq_false_iff_ne.2 (by omega)
  go_enter Try.func72, Try.ntmps72
  go_wp2_with fail
  refine WA.out.mono ?_
  rintro e w1 ⟨g2, tl, rfl, hw, hwo, hb1⟩
  have HWO := hid hwo
  have hs1 := hb1.size
  have HW := hid (hw.below ((Below.refl w1.heap.size w1).alloc (Nat.le_refl _) (.cells #[.slice (some ⟨g2, 0, none⟩) n n] 155)))
  have HB2 := hid (hb1.alloc hs1 (.cells #[.slice (some ⟨g2, 0, none⟩) n n] 155))
  clear hw hwo hb1 WA
  go_wp2_with fail
  refine (lasting_any P g2 n n ns tl cs _ h8 (wo_ways HWO.out hn) (fun x N hx hN => (HO.out.below HB2.out hP).bef x N hx hN) (by simp; omega) (HC.out.below HB2.out hP) hcl HW.out).mono ?_
  rintro e w3 ⟨g3, f, rfl, hg3, hg3s, F3, HL, hb3⟩
  simp only [World.size_alloc] at hb3 hg3
  have HB3 := hid (HB2.out.trans (hb3.mono (by omega)))
  have F3 : Hid (GrpAt w3 g3 0 f) := hid (by have := F3.grp (t := 0) (by omega); simpa using this)
  have HLV := hid HL
  have OM3 := hid (HO.out.below HB3.out hP)
  clear hb3 HL HB2 HW
  go_wp2_with (refine wpList_load_grp rfl (.tmp 23) rfl g3 0 f rfl F3.out ?_)
  go_loopw [25] (fun i wq => ∃ v : Nat, v ≤ 256 ∧ i = .int .i64 v ∧ wq = w3 ∧ Hid (∀ u, u < v → ¬ (f u = true ∧ beg u = hd))) (fun i _ => 256 - (intOf i).toNat)
  case atStart => exact ⟨0, by omega, rfl, rfl, hid (fun u hu => by omega)⟩
  case round =>
    obtain ⟨v, hv, rfl, rfl, HA⟩ := hrel
    by_cases hlv : v < 256
    · have ix := fun W => run_index_grp f hlv W
      have cb := OM3.out.beg.c v hlv
      cases hf : f v with
      | false =>
        rw [hf] at ix
        have HF := hid hf
        clear hf
        go_wp2_with fail
        go_roundw
        case rel => exact ⟨v + 1, by omega, by go_num, trivial, hid (fun u hu h => by
          by_cases e : u = v
          · subst e; rw [HF.out] at h; cases h.1
          · exact HA.out u (by omega) h)⟩
        case measure => simp [intOf]; omega
      | true =>
        rw [hf] at ix
        have HF := hid hf
        clear hf
        cases he : (beg v == hd) with
        | true =>
          have HE := hid (beq_iff_eq.1 he)
          go_wp2_with fail
          go_ret
          exact ⟨true, rfl, ⟨tl, HWO.out, ⟨fun _ => ⟨v, hlv, (HLV.out v).1 HF.out, HE.out⟩, fun _ => rfl⟩⟩, HB3.out⟩
        | false =>
          have HE := hid (beq_eq_false_iff_ne.1 he)
          go_wp2_with fail
          go_roundw
          case rel => exact ⟨v + 1, by omega, by go_num, trivial, hid (fun u hu h => by
            by_cases e : u = v
            · subst e; exact HE.out h.2
            · exact HA.out u (by omega) h)⟩
          case measure => simp [intOf]; omega
    · obtain rfl : v = 256 := by omega
      go_wp2_with fail
      go_ret
      exact ⟨false, rfl, ⟨tl, HWO.out, ⟨fun h => (by cases h), fun ⟨v, h1, h2, h3⟩ => absurd ⟨(HLV.out v).2 h2, h3⟩ (HA.out v h1)⟩⟩, HB3.out⟩

end Go.Proofs.Ytjagijohfkffiab

/- The walk of the Outlook's Class. -/
namespace Go.Proofs.Ytjagijohfkffiab
open Go.RowKit
set_option linter.unusedVariables false

def outU (ns : List Nd) (liv beg : Nat → Bool) (us : List (List Nat)) : Nat → Nat := fun i => verdG liv (runG ns liv beg (us.getD i []))

theorem stR_of {w : World} {B g cap : Nat} {ns : List Nd} {liv beg : Nat → Bool} {us : List (List Nat)} {xs : List Nat} {SS : List St} (hS : StOk ns liv beg us xs SS) (hl : SS.length = us.length) (ho : w.ownsRow B 137 9 (.slice (some ⟨g, 0, none⟩) us.length cap) us.length (flatS SS)) : StR w g us.length (outU ns liv beg us) (nxL xs) := by
  have he := stOk_eight hS
  have key : ∀ i, i < us.length → stAt SS i = ⟨outU ns liv beg us i, (List.range 8).map fun l => ((nxL xs i l : Nat) : Int)⟩ := fun i hi => by
    have hi2 : i < SS.length := by omega
    obtain ⟨u, h1, h2, h3⟩ := hS i SS[i] (List.getElem?_eq_getElem hi2)
    have : stAt SS i = SS[i] := by simp [stAt, List.getD, List.getElem?_eq_getElem hi2]
    rw [this, h3]
    have e : us.getD i [] = u := by simp [List.getD, h1]
    unfold outU nxL
    rw [e]
  refine ⟨(ho.lt _ rfl).2, fun i hi => ?_, fun i m hi hm => ?_⟩
  · have := flatS_get he (show i < SS.length by omega) (show 0 < 9 by omega)
    rw [Nat.add_zero] at this
    rw [ho.cellAt (i * 9) (by omega), this, key i hi]
    rfl
  · have := flatS_get he (show i < SS.length by omega) (show 1 + m < 9 by omega)
    rw [show i * 9 + 1 + m = i * 9 + (1 + m) by omega, ho.cellAt (i * 9 + (1 + m)) (by omega), this, key i hi, Nat.add_comm 1 m]
    simp [stCells, hm]

theorem expl_nx {ns : List Nd} {liv beg : Nat → Bool} {us : List (List Nat)} {xs : List Nat} (h : Expl ns liv beg us xs) (he : xs.length = 8 * us.length) : ∀ i l, i < us.length → l < 8 → nxL xs i l < us.length := fun i l hi hl => by
  obtain ⟨u0, u1, _, h2, _⟩ := h.ok (8 * i + l) (by omega)
  exact (List.getElem?_eq_some_iff.1 h2).1

theorem Try.classSize : (Try.prog.info? 30).map (·.size) = some 3 := by kernel_rfl

/-- What Class tells, by the states. -/
def ClassP (ns : List Nd) (liv beg : Nat → Bool) (cs : List (Nat → Bool)) (sf co lv : Bool) : Prop :=
  ∃ us xs, Expl ns liv beg us xs ∧ xs.length = 8 * us.length ∧ EvP ns cs beg (outU ns liv beg us) (nxL xs) us.length 2 false (!sf) ∧ EvP ns cs beg (outU ns liv beg us) (nxL xs) us.length 1 true (!co) ∧ (lv = false ↔ ∃ i, i < us.length ∧ outU ns liv beg us i = 2)

set_option maxHeartbeats 8000000 in
set_option maxRecDepth 100000 in
theorem oclass_any (P : Nat) (ns : List Nd) (liv beg : Nat → Bool) (cs : List (Nat → Bool)) (w : World) (h8 : ns.length ≤ 8) (hfew : ∀ us xs, Expl ns liv beg us xs → us.length ≤ 796594185) (ho : OutM w P ns liv beg) (hcm : CalmM w P cs) (hcl : cs.length ≤ 8) :
    Calls Try.prog 38 #[.pointer (some ⟨P, 0, none⟩)] w fun e w' => ∃ sf co lv : Bool, e = .returned (.agg #[.bool sf, .bool co, .bool lv]) ∧ ClassP ns liv beg cs sf co lv ∧ Below w.heap.size w w' := by
  have hP := ho.lt
  have HO := hid ho
  have HC := hid hcm
  have HFEW := hid hfew
  clear ho hcm hfew
  go_enter Try.func38, Try.ntmps38
  go_wp2_with fail
  have ba := hid ((Below.refl w.heap.size w).alloc (Nat.le_refl _) (.cells #[.bool false, .bool false, .bool false] 30))
  refine (states_any P ns liv beg _ h8 HFEW.out (HO.out.below ba.out hP)).mono ?_
  unfold StatesMade
  rintro e w1 ⟨us, xs, SS, v, rfl, hE, hxl, hSl, hS, hown, hb1⟩
  simp only [World.size_alloc] at hown hb1
  have hup : 0 < us.length := (List.getElem?_eq_some_iff.1 hE.first).1
  have hfw := HFEW.out us xs hE
  obtain ⟨ao, cap, rfl⟩ := own_slice hown
  obtain ⟨g, rfl, hgB, hgs, _⟩ := own_at' hown hup
  have HR := hid (stR_of hS hSl hown)
  have HNX := hid (expl_nx hE hxl)
  have HE := hid (And.intro hE hxl)
  have cc0 : w1.cell? ⟨w.heap.size, 0, none⟩ = some (.bool false) := (hb1.cell (p := ⟨w.heap.size, 0, none⟩) (by show w.heap.size < w.heap.size + 1; omega)).trans (by simp)
  have cc1 : w1.cell? ⟨w.heap.size, 1, none⟩ = some (.bool false) := (hb1.cell (p := ⟨w.heap.size, 1, none⟩) (by show w.heap.size < w.heap.size + 1; omega)).trans (by simp)
  have cc2 : w1.cell? ⟨w.heap.size, 2, none⟩ = some (.bool false) := (hb1.cell (p := ⟨w.heap.size, 2, none⟩) (by show w.heap.size < w.heap.size + 1; omega)).trans (by simp)
  have ff : ∀ o, w1.frozen? ⟨w.heap.size, o, none⟩ = false := fun o => (hb1.frozen (p := ⟨w.heap.size, o, none⟩) (by show w.heap.size < w.heap.size + 1; omega)).trans (by simp)
  have hsz1 : w.heap.size < w1.heap.size := by have := hb1.size; simp at this; omega
  have HB1 := hid (ba.out.trans (hb1.mono (by omega)))
  have HCC := hid (And.intro cc0 (And.intro cc1 (And.intro cc2 ff)))
  clear hown hb1 ba hE hS cc0 cc1 cc2 ff
  generalize hnn : us.length = n at *
  have HNN := hid hnn
  clear hnn
  go_wp2_with fail
  refine (evades_any P g n cap 2 false ns liv beg cs _ _ w1 h8 hup (by omega) (HO.out.below HB1.out hP) (HC.out.below HB1.out hP) hcl HR.out HNX.out).mono ?_
  rintro e w2 ⟨b1, rfl, hv1, hb2⟩
  have HV1 := hid hv1
  have HR2 := hid (HR.out.below hb2 hgs)
  have HB2 := hid (HB1.out.trans (hb2.mono (by omega)))
  have hsz2 := hb2.size
  have HCC2 := hid (And.intro ((hb2.cell (p := ⟨w.heap.size, 0, none⟩) hsz1).trans HCC.out.1) (And.intro ((hb2.cell (p := ⟨w.heap.size, 1, none⟩) hsz1).trans HCC.out.2.1) (And.intro ((hb2.cell (p := ⟨w.heap.size, 2, none⟩) hsz1).trans HCC.out.2.2.1) (fun o => (hb2.frozen (p := ⟨w.heap.size, o, none⟩) hsz1).trans (HCC.out.2.2.2 o)))))
  clear hv1 hb2 HR HB1 HCC
  go_wp2_with fail
  refine (evades_any P g n cap 1 true ns liv beg cs _ _ w2 h8 hup (by omega) (HO.out.below HB2.out hP) (HC.out.below HB2.out hP) hcl HR2.out HNX.out).mono ?_
  rintro e w3 ⟨b2, rfl, hv2, hb3⟩
  have HV2 := hid hv2
  have HR3 := hid (HR2.out.below hb3 (by omega))
  have HB3 := hid (HB2.out.trans (hb3.mono (by omega)))
  have hsz3 := hb3.size
  have hl2 : w.heap.size < w2.heap.size := by omega
  have HCC3 := hid (And.intro ((hb3.cell (p := ⟨w.heap.size, 0, none⟩) hl2).trans HCC2.out.1) (And.intro ((hb3.cell (p := ⟨w.heap.size, 1, none⟩) hl2).trans HCC2.out.2.1) (And.intro ((hb3.cell (p := ⟨w.heap.size, 2, none⟩) hl2).trans HCC2.out.2.2.1) (fun o => (hb3.frozen (p := ⟨w.heap.size, o, none⟩) hl2).trans (HCC2.out.2.2.2 o)))))
  clear hv2 hb3 HR2 HB2 HCC2
  go_wp2_with fail
  refine (tells_any g n cap 2 _ _ w3 (by omega) HR3.out).mono ?_
  rintro e w4 ⟨b3, rfl, hv3, hb4⟩
  have HV3 := hid hv3
  have HB4 := hid (HB3.out.trans (hb4.mono (by omega)))
  have hl3 : w.heap.size < w3.heap.size := by omega
  have d0 := (hb4.cell (p := ⟨w.heap.size, 0, none⟩) hl3).trans HCC3.out.1
  have d1 := (hb4.cell (p := ⟨w.heap.size, 1, none⟩) hl3).trans HCC3.out.2.1
  have d2 := (hb4.cell (p := ⟨w.heap.size, 2, none⟩) hl3).trans HCC3.out.2.2.1
  have e0 := (hb4.frozen (p := ⟨w.heap.size, 0, none⟩) hl3).trans (HCC3.out.2.2.2 0)
  have e1 := (hb4.frozen (p := ⟨w.heap.size, 1, none⟩) hl3).trans (HCC3.out.2.2.2 1)
  have e2 := (hb4.frozen (p := ⟨w.heap.size, 2, none⟩) hl3).trans (HCC3.out.2.2.2 2)
  clear hv3 hb4 HR3 HB3 HCC3
  go_wp2_with fail
  refine ret_cells (cs := [.bool !b1, .bool !b2, .bool !b3]) (b := w.heap.size) Try.results38 ?_ ?_ ?_ Try.underlying30 rfl Try.classSize ?_
  · rfl
  · rfl
  · exact three_set d0 d1 d2 _ _ _
  · refine ⟨!b1, !b2, !b3, rfl, ⟨us, xs, HE.out.1, by rw [HNN.out]; exact HE.out.2, by rw [HNN.out, Bool.not_not]; exact HV1.out, by rw [HNN.out, Bool.not_not]; exact HV2.out, by rw [HNN.out, ← HV3.out]; simp⟩, ?_⟩
    exact ((HB4.out.setCell (p := ⟨w.heap.size, 0, none⟩) (Nat.le_refl _) _).setCell (p := ⟨w.heap.size, 1, none⟩) (Nat.le_refl _) _).setCell (p := ⟨w.heap.size, 2, none⟩) (Nat.le_refl _) _

end Go.Proofs.Ytjagijohfkffiab

/- The walks of the program's reader: single, pair, formula (by induction), Parse, Size. -/
namespace Go.Proofs.Ytjagijohfkffiab
open Go.RowKit
set_option linter.unusedVariables false

/-- What a reading leaves. -/
def Rdd (o : Option (Nat × List Nd)) (R : Nat) (s : ByteArray) (w : World) (e : Ending) (w' : World) : Prop :=
  (o = none ∧ e = .returned (.bool false) ∧ Below R w w') ∨ (∃ a' ns', o = some (a', ns') ∧ e = .returned (.bool true) ∧ Rd w' R s a' ns' ∧ Below R w w')

/-- The contract of 'formula' at fuel k. -/
def FormulaAt (k R : Nat) (s : ByteArray) : Prop :=
  ∀ (a : Nat) (ns : List Nd) (w : World), Rd w R s a ns → s.size < a + k → a ≤ s.size → ns.length ≤ a → Calls Try.prog 62 #[.pointer (some ⟨R, 0, none⟩)] w (Rdd (ps k s a ns) R s w)

set_option maxHeartbeats 400000 in
theorem single_any (k R : Nat) (s : ByteArray) (hs : s.size ≤ 24) (H : FormulaAt k R s) (op : Int) (ho : 0 ≤ op) (a : Nat) (ns : List Nd) (w : World) (hr : Rd w R s a ns) (hk : s.size < a + k) (ha : a ≤ s.size) (hn : ns.length ≤ a) :
    Calls Try.prog 102 #[.pointer (some ⟨R, 0, none⟩), .int .u8 op] w (Rdd (ps1 op.toNat k s a ns) R s w) := by
  have C := H a ns w hr hk ha hn
  cases e0 : ps k s a ns with
  | none =>
    have e1 : Hid (ps1 op.toNat k s a ns = none) := hid (by simp [ps1, e0])
    have E0 := hid e0
    clear e0
    go_enter Try.func102, Try.ntmps102
    go_wp2_with fail
    refine C.mono ?_
    rintro e w1 (⟨_, rfl, hb⟩ | ⟨a', ns', h, _⟩)
    · go_wp2_with fail
      go_ret
      exact Or.inl ⟨e1.out, rfl, hb⟩
    · rw [E0.out] at h; cases h
  | some x =>
    obtain ⟨a1, n1⟩ := x
    have e1 : Hid (ps1 op.toNat k s a ns = some (a1, n1 ++ [⟨op.toNat, n1.length - 1, 0⟩])) := hid (by simp [ps1, e0])
    have E0 := hid e0
    have g := ps_grows k s a ns a1 n1 e0
    clear e0
    go_enter Try.func102, Try.ntmps102
    go_wp2_with fail
    refine C.mono ?_
    rintro e w1 (⟨h, _⟩ | ⟨a', ns', h, rfl, hr1, hb⟩)
    · rw [E0.out] at h; cases h
    · rw [E0.out] at h
      simp only [Option.some.injEq, Prod.mk.injEq] at h
      obtain ⟨rfl, rfl⟩ := h
      obtain ⟨ao, cap, c2, _⟩ := hr1.c2
      go_wp2_with fail
      refine (add_any R a1 op _ 0 s n1 w1 (by omega) ho (by omega) (by omega) hr1).mono ?_
      rintro e w2 ⟨rfl, hr2, hb2⟩
      clear c2
      go_wp2_with fail
      go_ret
      refine Or.inr ⟨_, _, e1.out, rfl, ?_, hb.trans hb2⟩
      rw [show ((n1.length : Int) - 1).toNat = n1.length - 1 from by omega] at hr2
      exact hr2

theorem nxt_in {s : ByteArray} {a : Nat} (h : bt s a ≠ 0) : nxt s a = a + 1 := by unfold nxt; rw [if_pos (bt_lt h)]

set_option maxHeartbeats 800000 in
theorem pair_any (k R : Nat) (s : ByteArray) (hs : s.size ≤ 24) (H : FormulaAt k R s) (a : Nat) (ns : List Nd) (w : World) (hr : Rd w R s a ns) (hk : s.size < a + k) (ha : a ≤ s.size) (hn : ns.length ≤ a) :
    Calls Try.prog 103 #[.pointer (some ⟨R, 0, none⟩)] w (Rdd (ps2 k s a ns) R s w) := by
  have C := H a ns w hr hk ha hn
  cases e0 : ps k s a ns with
  | none =>
    have e1 : Hid (ps2 k s a ns = none) := hid (by simp [ps2, e0])
    have E0 := hid e0
    clear e0
    go_enter Try.func103, Try.ntmps103
    go_wp2_with fail
    refine C.mono ?_
    rintro e w1 (⟨_, rfl, hb⟩ | ⟨a', ns', h, _⟩)
    · go_wp2_with fail
      go_ret
      exact Or.inl ⟨e1.out, rfl, hb⟩
    · rw [E0.out] at h; cases h
  | some x =>
    obtain ⟨a1, n1⟩ := x
    have g1 := ps_grows k s a ns a1 n1 e0
    have H1 : a1 + 1 ≤ s.size → Hid (∀ (w : World), Rd w R s (a1 + 1) n1 → Calls Try.prog 62 #[.pointer (some ⟨R, 0, none⟩)] w (Rdd (ps k s (a1 + 1) n1) R s w)) := fun hl => hid (fun w h => H (a1 + 1) n1 w h (by omega) hl (by omega))
    by_cases b4 : twoB (bt s a1) = true
    · have hlt := bt_lt (two_ne b4)
      have hnx := hid (nxt_in (two_ne b4))
      cases e2 : ps k s (a1 + 1) n1 with
      | none =>
        have e1 : Hid (ps2 k s a ns = none) := hid (by simp [ps2, e0, b4, e2])
        have E0 := hid e0
        have E2 := hid e2
        have B4 := hid b4
        clear e0 e2 b4
        go_enter Try.func103, Try.ntmps103
        go_wp2_with fail
        refine C.mono ?_
        rintro e w1 (⟨h, _⟩ | ⟨a', ns', h, rfl, hr1, hb⟩)
        · rw [E0.out] at h; cases h
        rw [E0.out] at h
        simp only [Option.some.injEq, Prod.mk.injEq] at h
        obtain ⟨rfl, rfl⟩ := h
        obtain ⟨ao, cap, c2, _⟩ := hr1.c2
        go_wp2_with fail
        refine (take_any R a1 s n1 w1 hs (by omega) hr1).mono ?_
        rintro e w2 ⟨rfl, hr2, hb2⟩
        rw [hnx.out] at hr2
        go_wp2_with fail
        refine (joins_any (bt s a1) w2 (bt_256 _ _)).mono ?_
        rintro e w3 ⟨rfl, rfl⟩
        rw [B4.out]
        go_wp2_with fail
        refine ((H1 hlt).out _ hr2).mono ?_
        rintro e w4 (⟨_, rfl, hb4⟩ | ⟨a', ns', h, _⟩)
        · go_wp2_with fail
          go_ret
          exact Or.inl ⟨e1.out, rfl, (hb.trans hb2).trans hb4⟩
        · rw [E2.out] at h; cases h
      | some x =>
        obtain ⟨a2, n2⟩ := x
        have g2 := ps_grows k s _ n1 a2 n2 e2
        by_cases b5 : bt s a2 = 41
        · have e1 : Hid (ps2 k s a ns = some (a2 + 1, n2 ++ [⟨bt s a1, n1.length - 1, n2.length - 1⟩])) := hid (by simp [ps2, e0, b4, e2, b5])
          have hnx2 := hid (nxt_in (s := s) (a := a2) (by omega))
          have B5 := hid b5
          have E0 := hid e0
          have E2 := hid e2
          have B4 := hid b4
          clear e0 e2 b4 b5
          go_enter Try.func103, Try.ntmps103
          go_wp2_with fail
          refine C.mono ?_
          rintro e w1 (⟨h, _⟩ | ⟨a', ns', h, rfl, hr1, hb⟩)
          · rw [E0.out] at h; cases h
          rw [E0.out] at h
          simp only [Option.some.injEq, Prod.mk.injEq] at h
          obtain ⟨rfl, rfl⟩ := h
          obtain ⟨ao, cap, c2, _⟩ := hr1.c2
          go_wp2_with fail
          refine (take_any R a1 s n1 w1 hs (by omega) hr1).mono ?_
          rintro e w2 ⟨rfl, hr2, hb2⟩
          rw [hnx.out] at hr2
          clear c2
          go_wp2_with fail
          refine (joins_any (bt s a1) w2 (bt_256 _ _)).mono ?_
          rintro e w3 ⟨rfl, rfl⟩
          rw [B4.out]
          go_wp2_with fail
          refine ((H1 hlt).out _ hr2).mono ?_
          rintro e w4 (⟨h, _⟩ | ⟨a', ns', h, rfl, hr4, hb4⟩)
          · rw [E2.out] at h; cases h
          rw [E2.out] at h
          simp only [Option.some.injEq, Prod.mk.injEq] at h
          obtain ⟨rfl, rfl⟩ := h
          obtain ⟨ao2, cap2, c4, _⟩ := hr4.c2
          go_wp2_with fail
          refine (take_any R a2 s n2 w4 hs (by omega) hr4).mono ?_
          rintro e w5 ⟨rfl, hr5, hb5⟩
          rw [hnx2.out] at hr5
          rw [B5.out]
          clear c4
          go_wp2_with fail
          refine (add_any R (a2 + 1) _ _ _ s n2 w5 (by omega) (by omega) (by omega) (by omega) hr5).mono ?_
          rintro e w6 ⟨rfl, hr6, hb6⟩
          go_wp2_with fail
          go_ret
          refine Or.inr ⟨_, _, e1.out, rfl, ?_, (((hb.trans hb2).trans hb4).trans hb5).trans hb6⟩
          rw [show ((n1.length : Int) - 1).toNat = n1.length - 1 from by omega, show ((n2.length : Int) - 1).toNat = n2.length - 1 from by omega, Int.toNat_natCast] at hr6
          exact hr6
        · have e1 : Hid (ps2 k s a ns = none) := hid (by simp [ps2, e0, b4, e2, b5])
          have b6 : ((bt s a2 : Int) != 41) = true := by rw [bne_iff_ne]; omega
          have E0 := hid e0
          have E2 := hid e2
          have B4 := hid b4
          clear e0 e2 b4 b5
          go_enter Try.func103, Try.ntmps103
          go_wp2_with fail
          refine C.mono ?_
          rintro e w1 (⟨h, _⟩ | ⟨a', ns', h, rfl, hr1, hb⟩)
          · rw [E0.out] at h; cases h
          rw [E0.out] at h
          simp only [Option.some.injEq, Prod.mk.injEq] at h
          obtain ⟨rfl, rfl⟩ := h
          obtain ⟨ao, cap, c2, _⟩ := hr1.c2
          go_wp2_with fail
          refine (take_any R a1 s n1 w1 hs (by omega) hr1).mono ?_
          rintro e w2 ⟨rfl, hr2, hb2⟩
          rw [hnx.out] at hr2
          clear c2
          go_wp2_with fail
          refine (joins_any (bt s a1) w2 (bt_256 _ _)).mono ?_
          rintro e w3 ⟨rfl, rfl⟩
          rw [B4.out]
          go_wp2_with fail
          refine ((H1 hlt).out _ hr2).mono ?_
          rintro e w4 (⟨h, _⟩ | ⟨a', ns', h, rfl, hr4, hb4⟩)
          · rw [E2.out] at h; cases h
          rw [E2.out] at h
          simp only [Option.some.injEq, Prod.mk.injEq] at h
          obtain ⟨rfl, rfl⟩ := h
          obtain ⟨ao2, cap2, c4, _⟩ := hr4.c2
          go_wp2_with fail
          refine (take_any R a2 s n2 w4 hs (by omega) hr4).mono ?_
          rintro e w5 ⟨rfl, hr5, hb5⟩
          clear c4
          go_wp2_with fail
          go_ret
          exact Or.inl ⟨e1.out, rfl, ((hb.trans hb2).trans hb4).trans hb5⟩
    · rw [Bool.not_eq_true] at b4
      have e1 : Hid (ps2 k s a ns = none) := hid (by simp [ps2, e0, b4])
      have E0 := hid e0
      have B4 := hid b4
      clear e0 b4
      go_enter Try.func103, Try.ntmps103
      go_wp2_with fail
      refine C.mono ?_
      rintro e w1 (⟨h, _⟩ | ⟨a', ns', h, rfl, hr1, hb⟩)
      · rw [E0.out] at h; cases h
      rw [E0.out] at h
      simp only [Option.some.injEq, Prod.mk.injEq] at h
      obtain ⟨rfl, rfl⟩ := h
      obtain ⟨ao, cap, c2, _⟩ := hr1.c2
      go_wp2_with fail
      refine (take_any R a1 s n1 w1 hs (by omega) hr1).mono ?_
      rintro e w2 ⟨rfl, hr2, hb2⟩
      clear c2
      go_wp2_with fail
      refine (joins_any (bt s a1) w2 (bt_256 _ _)).mono ?_
      rintro e w3 ⟨rfl, rfl⟩
      rw [B4.out]
      go_wp2_with fail
      go_ret
      exact Or.inl ⟨e1.out, rfl, hb.trans hb2⟩

set_option maxHeartbeats 800000 in
theorem formula_any (R : Nat) (s : ByteArray) (hs : s.size ≤ 24) (k : Nat) : FormulaAt k R s := by
  induction k with
  | zero => intro a ns w hr hk ha hn; omega
  | succ k ih =>
    intro a ns w hr hk ha hn
    have T := take_any R a s ns w hs ha hr
    by_cases h48 : bt s a = 48
    · have e1 : Hid (ps (k + 1) s a ns = some (a + 1, ns ++ [⟨48, 0, 0⟩])) := hid (by rw [ps_leaf (by rw [h48]; decide), h48])
      have hnx := hid (nxt_in (s := s) (a := a) (by omega))
      have B := hid h48
      clear h48
      go_enter Try.func62, Try.ntmps62
      go_wp2_with fail
      refine T.mono ?_
      rintro e w1 ⟨rfl, hr1, hb⟩
      rw [hnx.out] at hr1
      rw [B.out]
      go_wp2_with fail
      refine (add_any R (a + 1) _ 0 0 s ns w1 (by omega) (by omega) (by omega) (by omega) hr1).mono ?_
      rintro e w2 ⟨rfl, hr2, hb2⟩
      go_wp2_with fail
      go_ret
      exact Or.inr ⟨_, _, e1.out, rfl, hr2, hb.trans hb2⟩
    by_cases h49 : bt s a = 49
    · have e1 : Hid (ps (k + 1) s a ns = some (a + 1, ns ++ [⟨49, 0, 0⟩])) := hid (by rw [ps_leaf (by rw [h49]; decide), h49])
      have hnx := hid (nxt_in (s := s) (a := a) (by omega))
      have B := hid h49
      clear h49
      go_enter Try.func62, Try.ntmps62
      go_wp2_with fail
      refine T.mono ?_
      rintro e w1 ⟨rfl, hr1, hb⟩
      rw [hnx.out] at hr1
      rw [B.out]
      go_wp2_with fail
      refine (add_any R (a + 1) _ 0 0 s ns w1 (by omega) (by omega) (by omega) (by omega) hr1).mono ?_
      rintro e w2 ⟨rfl, hr2, hb2⟩
      go_wp2_with fail
      go_ret
      exact Or.inr ⟨_, _, e1.out, rfl, hr2, hb.trans hb2⟩
    by_cases h112 : bt s a = 112
    · have e1 : Hid (ps (k + 1) s a ns = some (a + 1, ns ++ [⟨112, 0, 0⟩])) := hid (by rw [ps_leaf (by rw [h112]; decide), h112])
      have hnx := hid (nxt_in (s := s) (a := a) (by omega))
      have B := hid h112
      clear h112
      go_enter Try.func62, Try.ntmps62
      go_wp2_with fail
      refine T.mono ?_
      rintro e w1 ⟨rfl, hr1, hb⟩
      rw [hnx.out] at hr1
      rw [B.out]
      go_wp2_with fail
      refine (add_any R (a + 1) _ 0 0 s ns w1 (by omega) (by omega) (by omega) (by omega) hr1).mono ?_
      rintro e w2 ⟨rfl, hr2, hb2⟩
      go_wp2_with fail
      go_ret
      exact Or.inr ⟨_, _, e1.out, rfl, hr2, hb.trans hb2⟩
    by_cases h113 : bt s a = 113
    · have e1 : Hid (ps (k + 1) s a ns = some (a + 1, ns ++ [⟨113, 0, 0⟩])) := hid (by rw [ps_leaf (by rw [h113]; decide), h113])
      have hnx := hid (nxt_in (s := s) (a := a) (by omega))
      have B := hid h113
      clear h113
      go_enter Try.func62, Try.ntmps62
      go_wp2_with fail
      refine T.mono ?_
      rintro e w1 ⟨rfl, hr1, hb⟩
      rw [hnx.out] at hr1
      rw [B.out]
      go_wp2_with fail
      refine (add_any R (a + 1) _ 0 0 s ns w1 (by omega) (by omega) (by omega) (by omega) hr1).mono ?_
      rintro e w2 ⟨rfl, hr2, hb2⟩
      go_wp2_with fail
      go_ret
      exact Or.inr ⟨_, _, e1.out, rfl, hr2, hb.trans hb2⟩
    by_cases h114 : bt s a = 114
    · have e1 : Hid (ps (k + 1) s a ns = some (a + 1, ns ++ [⟨114, 0, 0⟩])) := hid (by rw [ps_leaf (by rw [h114]; decide), h114])
      have hnx := hid (nxt_in (s := s) (a := a) (by omega))
      have B := hid h114
      clear h114
      go_enter Try.func62, Try.ntmps62
      go_wp2_with fail
      refine T.mono ?_
      rintro e w1 ⟨rfl, hr1, hb⟩
      rw [hnx.out] at hr1
      rw [B.out]
      go_wp2_with fail
      refine (add_any R (a + 1) _ 0 0 s ns w1 (by omega) (by omega) (by omega) (by omega) hr1).mono ?_
      rintro e w2 ⟨rfl, hr2, hb2⟩
      go_wp2_with fail
      go_ret
      exact Or.inr ⟨_, _, e1.out, rfl, hr2, hb.trans hb2⟩
    by_cases h33 : bt s a = 33
    · have e1 : Hid (ps (k + 1) s a ns = ps1 33 k s (a + 1) ns) := hid (by rw [ps_one (by rw [h33]; decide), h33])
      have hlt := bt_lt (s := s) (i := a) (by omega)
      have hnx := hid (nxt_in (s := s) (a := a) (by omega))
      have B := hid h33
      clear h33
      go_enter Try.func62, Try.ntmps62
      go_wp2_with fail
      refine T.mono ?_
      rintro e w1 ⟨rfl, hr1, hb⟩
      rw [hnx.out] at hr1
      rw [B.out]
      go_wp2_with fail
      refine (single_any k R s hs ih _ (by omega) (a + 1) ns w1 hr1 (by omega) (by omega) (by omega)).mono ?_
      rintro e w2 h
      rcases h with ⟨h, rfl, hb2⟩ | ⟨a', ns', h, rfl, hr2, hb2⟩
      · go_wp2_with fail
        go_ret
        exact Or.inl ⟨e1.out.trans h, rfl, hb.trans hb2⟩
      · go_wp2_with fail
        go_ret
        exact Or.inr ⟨a', ns', e1.out.trans h, rfl, hr2, hb.trans hb2⟩
    by_cases h88 : bt s a = 88
    · have e1 : Hid (ps (k + 1) s a ns = ps1 88 k s (a + 1) ns) := hid (by rw [ps_one (by rw [h88]; decide), h88])
      have hlt := bt_lt (s := s) (i := a) (by omega)
      have hnx := hid (nxt_in (s := s) (a := a) (by omega))
      have B := hid h88
      clear h88
      go_enter Try.func62, Try.ntmps62
      go_wp2_with fail
      refine T.mono ?_
      rintro e w1 ⟨rfl, hr1, hb⟩
      rw [hnx.out] at hr1
      rw [B.out]
      go_wp2_with fail
      refine (single_any k R s hs ih _ (by omega) (a + 1) ns w1 hr1 (by omega) (by omega) (by omega)).mono ?_
      rintro e w2 h
      rcases h with ⟨h, rfl, hb2⟩ | ⟨a', ns', h, rfl, hr2, hb2⟩
      · go_wp2_with fail
        go_ret
        exact Or.inl ⟨e1.out.trans h, rfl, hb.trans hb2⟩
      · go_wp2_with fail
        go_ret
        exact Or.inr ⟨a', ns', e1.out.trans h, rfl, hr2, hb.trans hb2⟩
    by_cases h70 : bt s a = 70
    · have e1 : Hid (ps (k + 1) s a ns = ps1 70 k s (a + 1) ns) := hid (by rw [ps_one (by rw [h70]; decide), h70])
      have hlt := bt_lt (s := s) (i := a) (by omega)
      have hnx := hid (nxt_in (s := s) (a := a) (by omega))
      have B := hid h70
      clear h70
      go_enter Try.func62, Try.ntmps62
      go_wp2_with fail
      refine T.mono ?_
      rintro e w1 ⟨rfl, hr1, hb⟩
      rw [hnx.out] at hr1
      rw [B.out]
      go_wp2_with fail
      refine (single_any k R s hs ih _ (by omega) (a + 1) ns w1 hr1 (by omega) (by omega) (by omega)).mono ?_
      rintro e w2 h
      rcases h with ⟨h, rfl, hb2⟩ | ⟨a', ns', h, rfl, hr2, hb2⟩
      · go_wp2_with fail
        go_ret
        exact Or.inl ⟨e1.out.trans h, rfl, hb.trans hb2⟩
      · go_wp2_with fail
        go_ret
        exact Or.inr ⟨a', ns', e1.out.trans h, rfl, hr2, hb.trans hb2⟩
    by_cases h71 : bt s a = 71
    · have e1 : Hid (ps (k + 1) s a ns = ps1 71 k s (a + 1) ns) := hid (by rw [ps_one (by rw [h71]; decide), h71])
      have hlt := bt_lt (s := s) (i := a) (by omega)
      have hnx := hid (nxt_in (s := s) (a := a) (by omega))
      have B := hid h71
      clear h71
      go_enter Try.func62, Try.ntmps62
      go_wp2_with fail
      refine T.mono ?_
      rintro e w1 ⟨rfl, hr1, hb⟩
      rw [hnx.out] at hr1
      rw [B.out]
      go_wp2_with fail
      refine (single_any k R s hs ih _ (by omega) (a + 1) ns w1 hr1 (by omega) (by omega) (by omega)).mono ?_
      rintro e w2 h
      rcases h with ⟨h, rfl, hb2⟩ | ⟨a', ns', h, rfl, hr2, hb2⟩
      · go_wp2_with fail
        go_ret
        exact Or.inl ⟨e1.out.trans h, rfl, hb.trans hb2⟩
      · go_wp2_with fail
        go_ret
        exact Or.inr ⟨a', ns', e1.out.trans h, rfl, hr2, hb.trans hb2⟩
    by_cases h40 : bt s a = 40
    · have e1 : Hid (ps (k + 1) s a ns = ps2 k s (a + 1) ns) := hid (ps_two h40)
      have hlt := bt_lt (s := s) (i := a) (by omega)
      have hnx := hid (nxt_in (s := s) (a := a) (by omega))
      have B := hid h40
      clear h40
      go_enter Try.func62, Try.ntmps62
      go_wp2_with fail
      refine T.mono ?_
      rintro e w1 ⟨rfl, hr1, hb⟩
      rw [hnx.out] at hr1
      rw [B.out]
      go_wp2_with fail
      refine (pair_any k R s hs ih (a + 1) ns w1 hr1 (by omega) (by omega) (by omega)).mono ?_
      rintro e w2 h
      rcases h with ⟨h, rfl, hb2⟩ | ⟨a', ns', h, rfl, hr2, hb2⟩
      · go_wp2_with fail
        go_ret
        exact Or.inl ⟨e1.out.trans h, rfl, hb.trans hb2⟩
      · go_wp2_with fail
        go_ret
        exact Or.inr ⟨a', ns', e1.out.trans h, rfl, hr2, hb.trans hb2⟩
    have e1 : Hid (ps (k + 1) s a ns = none) := hid (ps_no (by simp [leafB, h48, h49, h112, h113, h114]) (by simp [oneB, h33, h88, h70, h71]) h40)
    have k48 : ((bt s a : Int) == 48) = false := beq_eq_false_iff_ne.2 (by omega)
    have k49 : ((bt s a : Int) == 49) = false := beq_eq_false_iff_ne.2 (by omega)
    have k112 : ((bt s a : Int) == 112) = false := beq_eq_false_iff_ne.2 (by omega)
    have k113 : ((bt s a : Int) == 113) = false := beq_eq_false_iff_ne.2 (by omega)
    have k114 : ((bt s a : Int) == 114) = false := beq_eq_false_iff_ne.2 (by omega)
    have k33 : ((bt s a : Int) == 33) = false := beq_eq_false_iff_ne.2 (by omega)
    have k88 : ((bt s a : Int) == 88) = false := beq_eq_false_iff_ne.2 (by omega)
    have k70 : ((bt s a : Int) == 70) = false := beq_eq_false_iff_ne.2 (by omega)
    have k71 : ((bt s a : Int) == 71) = false := beq_eq_false_iff_ne.2 (by omega)
    have k40 : ((bt s a : Int) == 40) = false := beq_eq_false_iff_ne.2 (by omega)
    clear h48 h49 h112 h113 h114 h33 h88 h70 h71 h40
    go_enter Try.func62, Try.ntmps62
    go_wp2_with fail
    refine T.mono ?_
    rintro e w1 ⟨rfl, hr1, hb⟩
    go_wp2_with fail
    go_ret
    exact Or.inl ⟨e1.out, rfl, hb⟩

end Go.Proofs.Ytjagijohfkffiab
