/- The walk of findLiving. -/
import Derived.Test.YtjagijohfkffiaaAnyWay
namespace Go.Proofs.Ytjagijohfkffiaa
open Go.RowKit
set_option linter.unusedVariables false

def LivP (ns : List Nd) (cs : List (Nat → Bool)) (liv : Nat → Bool) : Prop := ∀ v, liv v = true ↔ Forever (Ew 1 ns (anyInto 8)) (spreads cs) v

set_option maxHeartbeats 4000000 in
set_option maxRecDepth 100000 in
theorem findLiving_any (P : Nat) (ns : List Nd) (cs : List (Nat → Bool)) (w : World) (h8 : ns.length ≤ 8) (hbm : BefM w P ns) (hP : P < w.heap.size) (hcm : CalmM w P cs) (hcl : cs.length ≤ 8) :
    Calls Try.prog 85 #[.pointer (some ⟨P, 0, none⟩)] w fun e w' => ∃ liv, e = .returned (.agg (gv liv).toArray) ∧ LivP ns cs liv ∧ Below w.heap.size w w' := by
  have HM := hid hbm
  have HC := hid hcm
  clear hbm hcm
  go_enter Try.func85, Try.ntmps85
  go_wp2_with fail
  refine (anyWay_any _).mono ?_
  rintro e w1 ⟨g, rfl, hw, hb1⟩
  simp only [World.size_alloc] at hb1
  have G2 := hid ((zero_new w).below hb1 (by omega))
  have HB1 := hid (((Below.refl w.heap.size w).alloc (Nat.le_refl _) (.cells Try.zeroCells81 81)).trans (hb1.mono (by omega)))
  have hs1 : w.heap.size < w1.heap.size := by have := hb1.size; simp at this; omega
  have HW := hid (hw.below ((Below.refl w1.heap.size w1).alloc (Nat.le_refl _) (.cells #[.slice (some ⟨g, 0, none⟩) 1 1] 175)))
  clear hw hb1
  have HB2 := hid (HB1.out.alloc (by omega) (.cells #[.slice (some ⟨g, 0, none⟩) 1 1] 175))
  have G2 := hid (G2.out.alloc (.cells #[.slice (some ⟨g, 0, none⟩) 1 1] 175))
  go_wp2_with fail
  refine (lasting_any P g 1 1 ns (anyInto 8) cs _ h8 anyInto_ways (HM.out.below HB2.out hP) (by simp; omega) (HC.out.below HB2.out hP) hcl HW.out).mono ?_
  rintro e w3 ⟨g3, f, rfl, hg3, hg3s, F3, HL, hb3⟩
  simp only [World.size_alloc] at hb3 hg3
  have G2 := hid (G2.out.below hb3 (by omega))
  have HB3 := hid (HB2.out.trans (hb3.mono (by omega)))
  have F3 := hid (F3.grp (t := 0) (by omega))
  have HLV := hid HL
  clear hb3 HL
  go_wp2_with (first | (refine wpList_load_grp rfl (.tmp 14) rfl g3 0 f rfl (by simpa using F3.out) ?_) | (refine wpList_store_grp rfl (.tmp 2) (.tmp 15) rfl w.heap.size 0 f rfl rfl G2.out.there ?_))
  intro w4 S4
  go_wp2_with fail
  refine ret_group Try.results85 ?_ ?_ S4.at_ ?_
  · rfl
  · rfl
  · exact ⟨f, rfl, HLV.out, S4.bel _ _ (Nat.le_refl _) HB3.out⟩

end Go.Proofs.Ytjagijohfkffiaa
