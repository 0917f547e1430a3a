/- The walk of the Outlook's Judge. -/
import Derived.Test.YtjagijohfkffiaaOutC
namespace Go.Proofs.Ytjagijohfkffiaa
open Go.RowKit
set_option linter.unusedVariables false

def runG (ns : List Nd) (liv : Nat → Bool) (g : Nat → Bool) (us : List Nat) : Nat → Bool := us.foldl (fun g x => stepG ns liv g x) g
theorem runG_snoc (ns : List Nd) (liv g : Nat → Bool) (us : List Nat) (x : Nat) : runG ns liv g (us ++ [x]) = stepG ns liv (runG ns liv g us) x := by simp [runG]

theorem take_nat {zs : List Int} {j : Nat} (h : j < zs.length) {x : Nat} (hx : zs.getD j 0 = (x : Int)) : (zs.map Int.toNat).take (j + 1) = (zs.map Int.toNat).take j ++ [x] := by
  rw [List.take_succ_eq_append_getElem (by simpa using h)]
  have : zs[j] = (x : Int) := by simpa [List.getD, List.getElem?_eq_getElem h] using hx
  simp [this]

set_option maxHeartbeats 1600000 in
set_option maxRecDepth 100000 in
theorem ojudge_any (P : Nat) (ns : List Nd) (liv beg : Nat → Bool) (ao : Option Addr) (len cap : Nat) (zs : List Int) (w : World) (h8 : ns.length ≤ 8) (ho : OutM w P ns liv beg) (hi : Ints w ao len cap zs) (ha : allL zs = true) :
    Calls Try.prog 56 #[.pointer (some ⟨P, 0, none⟩), .slice ao len cap] w fun e w' => e = .returned (.int .i64 (verdG liv (runG ns liv beg (zs.map Int.toNat)) : Nat)) ∧ Below w.heap.size w w' := by
  have hP := ho.lt
  have HO := hid ho
  have HI := hid hi
  have hl := hi.hlen
  have hc := hi.hcap
  have hm := hi.hmax
  have HA := hid ha
  have HL := hid hl
  clear ho hi ha hl
  go_enter Try.func56, Try.ntmps56
  go_wp2_with fail
  refine (begin_any P beg _ HO.out.beg).mono ?_
  rintro e w1 ⟨rfl, hb1⟩
  have hs1 := hb1.size
  go_wp2_with (refine wpList_store_grp rfl (.tmp 5) (.tmp 9) rfl w1.heap.size 0 beg rfl rfl (zero_new w1).there ?_)
  intro w2 S2
  have G5 := hid S2.at_
  have HB2 : Hid (Below w.heap.size w w2) := hid (S2.bel _ _ hs1 (hb1.alloc hs1 _))
  clear S2 hb1
  generalize w1.heap.size = gb at *
  go_wp2_with fail
  go_loopw [12] (fun i wq => ∃ j : Nat, j ≤ len ∧ i = .int .i64 j ∧ Hid (GrpAt wq gb 0 (runG ns liv beg ((zs.map Int.toNat).take j))) ∧ Hid (Below w.heap.size w wq)) (fun i _ => len - (intOf i).toNat)
  case atStart => exact ⟨0, Nat.zero_le _, rfl, by simpa [runG] using G5, HB2⟩
  case round =>
    obtain ⟨j, hj, rfl, H5, HB⟩ := hrel
    rename World => W0
    by_cases hlt : j < len
    · obtain ⟨b, off, rfl, hb, hcell⟩ := HI.out.hcell (by omega)
      have c := (HB.out.cell (p := ⟨b, off + j, none⟩) hb).trans (hcell j hlt)
      have hz : isL (zs.getD j 0) = true := by
        have h1 := HA.out
        unfold allL at h1
        rw [List.all_eq_true] at h1
        have h2 : j < zs.length := by rw [HL.out]; exact hlt
        have h3 : zs.getD j 0 = zs[j] := by simp [List.getD, List.getElem?_eq_getElem h2]
        rw [h3]
        exact h1 _ (List.getElem_mem h2)
      obtain ⟨x, hx⟩ : ∃ x : Nat, zs.getD j 0 = (x : Int) := ⟨(zs.getD j 0).toNat, by have := (isL_iff.1 hz).1; omega⟩
      have hx8 : x < 8 := by have := (isL_iff.1 hz).2; omega
      have HT := hid (take_nat (zs := zs) (j := j) (by rw [HL.out]; exact hlt) hx)
      rw [hx] at c
      clear hx hz hcell
      have ST := fun fr W (h : OutM W P ns liv beg) => step_any P x ns liv beg fr W hx8 h8 h
      have o := hid (HO.out.below HB.out hP)
      go_wp2_with (refine wpList_load_grp rfl (.tmp 5) rfl gb 0 _ rfl H5.out ?_)
      refine (ST _ _ o.out).mono ?_
      rintro e w3 ⟨rfl, hb3⟩
      have G3 := hid (H5.out.below hb3 H5.out.lt)
      have HB3 := hid (HB.out.trans (hb3.mono HB.out.size))
      clear hb3 ST o
      go_wp2_with (refine wpList_store_grp rfl (.tmp 5) (.tmp 19) rfl gb 0 (stepG ns liv (runG ns liv beg ((zs.map Int.toNat).take j)) x) rfl rfl G3.out.there ?_)
      intro w4 S4
      have G4 := hid S4.at_
      have HB4 := hid (S4.bel _ _ hs1 HB3.out)
      clear S4
      go_wp2_with fail
      go_roundw
      case rel => exact ⟨j + 1, by omega, by go_num, by rw [HT.out, runG_snoc]; exact G4, HB4⟩
      case measure => simp [intOf]; omega
    · obtain rfl : j = len := by omega
      have o := hid (HO.out.below HB.out hP)
      have HE : Hid ((zs.map Int.toNat).take j = zs.map Int.toNat) := hid (List.take_of_length_le (by simp [HL.out]))
      go_wp2_with (refine wpList_load_grp rfl (.tmp 5) rfl gb 0 _ rfl H5.out ?_)
      refine (verdict_any P ns liv beg _ _ o.out).mono ?_
      rintro e w3 ⟨rfl, hb3⟩
      go_wp2_with fail
      go_ret
      exact ⟨by rw [HE.out]; rfl, HB.out.trans (hb3.mono HB.out.size)⟩

end Go.Proofs.Ytjagijohfkffiaa
