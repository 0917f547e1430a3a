/- The walks of drop and lasting. -/
import Derived.Test.YtjagijohfkffiaaLeads
namespace Go.Proofs.Ytjagijohfkffiaa
open Go.RowKit
set_option linter.unusedVariables false

/-- The calm groups of an outlook, in memory. -/
def CalmM (w : World) (P : Nat) (cs : List (Nat → Bool)) : Prop := ∃ ao cap, w.cell? ⟨P, 2048, none⟩ = some (.slice ao cs.length cap) ∧ (0 < cs.length → ∃ gc, ao = some ⟨gc, 0, none⟩ ∧ gc < w.heap.size ∧ ∀ k c, cs[k]? = some c → GrpAt w gc (k * 256) c)
theorem CalmM.below {w w' : World} {P : Nat} {cs : List (Nat → Bool)} (h : CalmM w P cs) (hb : Below w.heap.size w w') (hP : P < w.heap.size) : CalmM w' P cs := by
  obtain ⟨ao, cap, h1, h2⟩ := h
  refine ⟨ao, cap, (hb.cell (p := ⟨P, 2048, none⟩) hP).trans h1, fun h0 => ?_⟩
  obtain ⟨gc, h3, h4, h5⟩ := h2 h0
  exact ⟨gc, h3, Nat.lt_of_lt_of_le h4 hb.size, fun k c hk => (h5 k c hk).below hb h4⟩

/-- A group at each spot. -/
def spread (c : Nat → Bool) : Nat → Bool := fun x => c (x % 256)
def spreads (cs : List (Nat → Bool)) : List (Nat → Bool) := cs.map spread
theorem spreads_take {cs : List (Nat → Bool)} {k : Nat} {c : Nat → Bool} (h : cs[k]? = some c) : (spreads cs).take (k + 1) = (spreads cs).take k ++ [spread c] := by
  have hk := (List.getElem?_eq_some_iff.1 h).1
  rw [List.take_succ_eq_append_getElem (by simpa [spreads] using hk)]
  have : cs[k] = c := by rw [List.getElem?_eq_getElem hk] at h; exact Option.some.inj h
  simp [spreads, this]

set_option maxHeartbeats 8000000 in
set_option maxRecDepth 100000 in
theorem drop_any (P gi n icap g cap : Nat) (ns : List Nd) (into : Nat → List (Nat × Nat)) (cs : List (Nat → Bool)) (goal : Nat → Bool) (w : World) (h8 : ns.length ≤ 8) (hp : WaysP n into) (hbm : BefM w P ns) (hP : P < w.heap.size) (hcm : CalmM w P cs) (hcl : cs.length ≤ 8) (hw : WaysM w gi n into) (hgl : FlatG w g (n * 256) goal) (hg : g < w.heap.size) :
    Calls Try.prog 125 #[.pointer (some ⟨P, 0, none⟩), .agg #[.slice (some ⟨gi, 0, none⟩) n icap], .slice (some ⟨g, 0, none⟩) n cap] w fun e w' => ∃ g' found, e = .returned (.slice (some ⟨g', 0, none⟩) n n) ∧ w.heap.size ≤ g' ∧ g' < w'.heap.size ∧ FlatG w' g' (n * 256) found ∧ (∀ x, found x = true ↔ dropP (Ew n ns into) (spreads cs) (fun y => goal y = true) x) ∧ Below w.heap.size w w' := by
  have hn := hp.le
  have HP := hid hp
  have HM := hid hbm
  have HW := hid hw
  have HG := hid hgl
  have hgi := hw.lt
  obtain ⟨ca, ccap, cc0, hcr⟩ := hcm
  have HCR := hid hcr
  clear hp hbm hw hgl hcr
  generalize hm : cs.length = m at *
  have HLM := hid hm
  clear hm
  go_enter Try.func125, Try.ntmps125
  go_wp2_with fail
  have ba := hid ((Below.refl w.heap.size w).alloc (Nat.le_refl _) (.cells #[.slice (some ⟨gi, 0, none⟩) n icap] 175))
  refine (leads_any P gi n icap g cap ns into goal _ h8 HP.out (HM.out.below ba.out hP) (by simp; omega) (HW.out.below ba.out) (HG.out.below ba.out hg) (by simp; omega)).mono ?_
  rintro e w1 ⟨g1, f1, rfl, hg1, hg1s, F1, L1, hb1⟩
  simp only [World.size_alloc] at hg1 hb1
  have c4 : w1.cell? ⟨w.heap.size, 0, none⟩ = some (.slice (some ⟨gi, 0, none⟩) n icap) := (hb1.cell (p := ⟨w.heap.size, 0, none⟩) (by show w.heap.size < w.heap.size + 1; omega)).trans (by simp)
  have cc1 := (hb1.cell (p := ⟨P, 2048, none⟩) (by show P < w.heap.size + 1; omega)).trans ((ba.out.cell (p := ⟨P, 2048, none⟩) hP).trans cc0)
  have HB1 := hid (ba.out.trans (hb1.mono (by omega)))
  have F1 := hid F1
  have L1 := hid L1
  have hs1 : w.heap.size < w1.heap.size := by omega
  clear hb1 ba cc0
  have C4 := hid c4
  go_wp2_with fail
  clear cc1 c4
  go_loopw [7, 20] (fun v i wq => ∃ (k g2 : Nat) (f : Nat → Bool), k ≤ m ∧ i = .int .i64 k ∧ v = .slice (some ⟨g2, 0, none⟩) n n ∧ w.heap.size ≤ g2 ∧ g2 < wq.heap.size ∧ Hid (FlatG wq g2 (n * 256) f) ∧ Hid (∀ x, f x = true ↔ dropP (Ew n ns into) ((spreads cs).take k) (fun y => goal y = true) x) ∧ Hid (wq.cell? ⟨w.heap.size, 0, none⟩ = some (.slice (some ⟨gi, 0, none⟩) n icap)) ∧ Hid (Below w.heap.size w wq) ∧ w.heap.size < wq.heap.size) (fun _ i _ => m - (intOf i).toNat)
  case atStart => exact ⟨0, g1, f1, Nat.zero_le _, rfl, rfl, by omega, hg1s, F1, by simpa [dropP] using L1, C4, HB1, hs1⟩
  case round =>
    obtain ⟨k, g2, f, hk, rfl, rfl, hg2, hg2s, HF, HD, HC, HB, hsz⟩ := hrel
    rename World => W0
    by_cases hlk : k < m
    · obtain ⟨gc, e, hgc, hcell⟩ := HCR.out (by omega)
      subst e
      obtain ⟨c, hc⟩ : ∃ c, cs[k]? = some c := ⟨cs[k]'(by rw [HLM.out]; exact hlk), List.getElem?_eq_getElem (by rw [HLM.out]; exact hlk)⟩
      have GC := hid ((hcell k c hc).below HB.out hgc)
      have HTK := hid (spreads_take hc)
      clear hcell hc
      go_wp2_with (first | (refine wpList_load_grp rfl (.tmp 22) rfl gc (k * 256) c rfl GC.out ?_) | (refine wpList_store_grp rfl (.tmp 9) (.tmp 23) rfl W0.heap.size 0 c rfl rfl (zero_new W0).there ?_))
      intro w2 S2
      have bw2 : Below W0.heap.size W0 w2 := S2.bel _ _ (Nat.le_refl _) ((Below.refl _ _).alloc (Nat.le_refl _) _)
      have A9 := hid S2.at_
      have HF2 := hid (HF.out.below bw2 hg2s)
      have HC2 := hid ((bw2.cell (p := ⟨w.heap.size, 0, none⟩) hsz).trans HC.out)
      have HB2 := hid (HB.out.trans (bw2.mono (by omega)))
      have hs2 := bw2.size
      clear S2 bw2 GC
      go_wp2_with (refine wpList_load_grp rfl (.tmp 9) rfl W0.heap.size 0 c rfl A9.out ?_)
      refine (both_any g2 n n f c w2 (by omega) HF2.out (by omega)).mono ?_
      rintro e w3 ⟨g3, rfl, hg3, hg3s, F3, hb3⟩
      have F3 := hid F3
      have HB3 := hid (HB2.out.trans (hb3.mono (by omega)))
      have c43 := (hb3.cell (p := ⟨w.heap.size, 0, none⟩) (by show w.heap.size < w2.heap.size; omega)).trans HC2.out
      have C43 := hid c43
      have hs3 := hb3.size
      clear hb3 HF2 HC2
      go_wp2_with fail
      refine (leads_any P gi n icap g3 n ns into (bothB f c) w3 h8 HP.out (HM.out.below HB3.out hP) (by omega) (HW.out.below HB3.out) F3.out hg3s).mono ?_
      rintro e w4 ⟨g4, f4, rfl, hg4, hg4s, F4, L4, hb4⟩
      have F4 := hid F4
      have HB4 := hid (HB3.out.trans (hb4.mono (by omega)))
      have C44 := hid ((hb4.cell (p := ⟨w.heap.size, 0, none⟩) (by show w.heap.size < w3.heap.size; omega)).trans c43)
      have HL4 : Hid (∀ x, f4 x = true ↔ dropP (Ew n ns into) ((spreads cs).take (k + 1)) (fun y => goal y = true) x) := hid (fun x => by
        rw [L4 x, HTK.out, dropP_snoc]
        refine LeadsP.congr (fun y => ?_) x
        rw [← HD.out y]
        unfold bothB spread
        simp)
      have hs4 := hb4.size
      clear hb4 L4 c43 F3
      go_wp2_with fail
      go_roundw
      case rel => exact ⟨k + 1, g4, f4, by omega, by go_num, rfl, by omega, hg4s, F4, HL4, C44, HB4, by omega⟩
      case measure => simp [intOf]; omega
    · obtain rfl : k = m := by omega
      have HE : Hid ((spreads cs).take k = spreads cs) := hid (List.take_of_length_le (by simp [spreads, HLM.out]))
      go_wp2_with fail
      go_ret
      exact ⟨g2, f, rfl, hg2, hg2s, HF.out, by rw [HE.out] at HD; exact HD.out, HB.out⟩

end Go.Proofs.Ytjagijohfkffiaa
