/- The walk of leads. -/
import Derived.Test.YtjagijohfkffiaaSeek
namespace Go.Proofs.Ytjagijohfkffiaa
open Go.RowKit
set_option linter.unusedVariables false

set_option maxHeartbeats 4000000 in
set_option maxRecDepth 100000 in
theorem leads_any (P gi n icap g cap : Nat) (ns : List Nd) (into : Nat → List (Nat × Nat)) (goal : Nat → Bool) (w : World) (h8 : ns.length ≤ 8) (hp : WaysP n into) (hbm : BefM w P ns) (hP : P < w.heap.size) (hw : WaysM w gi n into) (hgl : FlatG w g (n * 256) goal) (hg : g < w.heap.size) :
    Calls Try.prog 129 #[.pointer (some ⟨P, 0, none⟩), .agg #[.slice (some ⟨gi, 0, none⟩) n icap], .slice (some ⟨g, 0, none⟩) n cap] w fun e w' => ∃ g' found, e = .returned (.slice (some ⟨g', 0, none⟩) n n) ∧ w.heap.size ≤ g' ∧ g' < w'.heap.size ∧ FlatG w' g' (n * 256) found ∧ (∀ x, found x = true ↔ LeadsP (Ew n ns into) (fun y => goal y = true) x) ∧ Below w.heap.size w w' := by
  have HP := hid hp
  have HM := hid hbm
  have HW := hid hw
  have HG := hid hgl
  clear hp hbm hw hgl
  go_enter Try.func129, Try.ntmps129
  go_wp2_with fail
  have ba := (Below.refl w.heap.size w).alloc (Nat.le_refl _) (.cells #[.slice (some ⟨gi, 0, none⟩) n icap] 175)
  refine (seek_any P gi n icap g cap ns into goal _ h8 HP.out (HM.out.below ba hP) (by simp; omega) (HW.out.below ba) (HG.out.below ba hg) (by simp; omega)).mono ?_
  rintro e w1 ⟨g', found, ls, v, rfl, hg', hgs, hF, hL, _, hO, hb⟩
  simp only [World.size_alloc] at hg' hb
  obtain ⟨ao, cp, rfl⟩ := own_slice hO
  have HF := hid hF
  have HL := hid hL
  have HB := hid (ba.trans (hb.mono (by omega)))
  have hs := hb.size
  clear hF hL hO hb ba
  go_wp2_with fail
  go_ret
  have bb := (Below.refl w1.heap.size w1).alloc (Nat.le_refl _) (.cells #[.slice (some ⟨g', 0, none⟩) n n, .slice ao ls.length cp, .int .i64 ((goalsTo goal (n * 256)).length : Nat)] 198)
  exact ⟨g', found, rfl, by omega, by simp; omega, HF.out.below bb hgs, HL.out, HB.out.trans (bb.mono (by omega))⟩

end Go.Proofs.Ytjagijohfkffiaa
