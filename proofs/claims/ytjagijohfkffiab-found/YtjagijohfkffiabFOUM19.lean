import Derived.Test.YtjagijohfkffiabFOUM07
import Derived.Test.YtjagijohfkffiabFOUM13
import Derived.Test.YtjagijohfkffiabFOUM14
import Derived.Test.YtjagijohfkffiabFOUM18
import Derived.Deep.RegionHeld3

/- Graphs that are handed in; the walks of among, edges. -/
namespace Go.Proofs.Ytjagijohfkffiab
open Go.RowKit
set_option linter.unusedVariables false

def inB (zs : List Int) (j : Nat) : Bool := zs.any fun z => z == (j : Int)
def numB (n : Nat) (zs : List Int) : Bool := zs.all fun z => decide (0 ≤ z) && decide (z < (n : Int))
theorem numB_iff {n : Nat} {zs : List Int} : numB n zs = true ↔ ∀ z ∈ zs, 0 ≤ z ∧ z < (n : Int) := by simp [numB, List.all_eq_true]
theorem inB_iff {zs : List Int} {j : Nat} : inB zs j = true ↔ (j : Int) ∈ zs := by
  unfold inB
  rw [List.any_eq_true]
  constructor
  · rintro ⟨z, h1, h2⟩
    have : z = (j : Int) := by simpa using h2
    rw [← this]; exact h1
  · intro h
    exact ⟨_, h, by simp⟩
theorem inB_take {zs : List Int} {k : Nat} {z : Int} (h : zs[k]? = some z) (j : Nat) : inB (zs.take (k + 1)) j = (inB (zs.take k) j || z == (j : Int)) := by
  unfold inB
  rw [List.take_add_one, h]
  simp
def six (e : Nat → Bool) : Array Value := #[.bool (e 0), .bool (e 1), .bool (e 2), .bool (e 3), .bool (e 4), .bool (e 5)]
theorem Try.sixSize : (Try.prog.info? 147).map (·.size) = some 6 := by kernel_rfl
theorem six_one (e : Nat → Bool) : One (fun i => Value.bool (e i)) 6 := fun i _ => rfl
def Amonged (n : Nat) (zs : List Int) (w : World) (e : Ending) (w' : World) : Prop :=
  ∃ f, e = .returned (.tuple #[.agg (six f), .bool (numB n zs)]) ∧ (numB n zs = true → ∀ j, j < 6 → f j = inB zs j) ∧ Below w.heap.size w w'

set_option maxHeartbeats 4000000 in
set_option maxRecDepth 100000 in
theorem among_any (a : Option Addr) (l c n : Nat) (zs : List Int) (w : World) (h : Ints w a l c zs) (hn : n ≤ 6) :
    Calls Try.prog 77 #[.slice a l c, .int .i64 (n : Nat)] w (Amonged n zs w) := by
  have hl := h.hlen
  have hcap := h.hcap
  have hmax := h.hmax
  have HI := hid (fun W (b : Below w.heap.size w W) => h.below b)
  clear h
  have R0 : RawAt (w.alloc (.cells #[.bool false, .bool false, .bool false, .bool false, .bool false, .bool false] 147)) w.heap.size 6 (fun _ => Value.bool false) := raw_new w (fun _ => Value.bool false) 6 147
  have I0 : RawAt ((w.alloc (.cells #[.bool false, .bool false, .bool false, .bool false, .bool false, .bool false] 147)).alloc (.cells #[.bool false, .bool false, .bool false, .bool false, .bool false, .bool false] 147)) (w.heap.size + 1) 6 (fun i => Value.bool (inB (zs.take 0) i)) := by
    have h1 := raw_new (w.alloc (.cells #[.bool false, .bool false, .bool false, .bool false, .bool false, .bool false] 147)) (fun _ => Value.bool false) 6 147
    rw [show (w.alloc (.cells #[.bool false, .bool false, .bool false, .bool false, .bool false, .bool false] 147)).heap.size = w.heap.size + 1 by simp] at h1
    exact h1
  have ba := (Below.refl w.heap.size w).alloc (Nat.le_refl _) (.cells #[.bool false, .bool false, .bool false, .bool false, .bool false, .bool false] 147)
  have HR0 := hid (R0.below ((Below.refl (w.heap.size + 1) (w.alloc (.cells #[.bool false, .bool false, .bool false, .bool false, .bool false, .bool false] 147))).alloc (by simp) (.cells #[.bool false, .bool false, .bool false, .bool false, .bool false, .bool false] 147)) (by omega))
  have HI0 := hid I0
  have HB0 := hid (ba.alloc (by simp) (.cells #[.bool false, .bool false, .bool false, .bool false, .bool false, .bool false] 147))
  clear R0 I0 ba
  go_enter Try.func77, Try.ntmps77
  go_wp2_with fail
  generalize hW : ((w.alloc (.cells #[.bool false, .bool false, .bool false, .bool false, .bool false, .bool false] 147)).alloc (.cells #[.bool false, .bool false, .bool false, .bool false, .bool false, .bool false] 147)) = W at *
  have hWs : W.heap.size = w.heap.size + 2 := by rw [← hW]; simp
  clear hW
  go_loopw [12] (fun i wq => ∃ k : Nat, k ≤ l ∧ i = .int .i64 k ∧ Hid (numB n (zs.take k) = true) ∧ Hid (RawAt wq (w.heap.size + 1) 6 (fun i => Value.bool (inB (zs.take k) i))) ∧ Hid (RawAt wq w.heap.size 6 (fun _ => Value.bool false)) ∧ Hid (Below w.heap.size w wq) ∧ wq.heap.size = w.heap.size + 2) (fun i _ => l - (intOf i).toNat)
  case atStart => exact ⟨0, Nat.zero_le _, rfl, hid (by simp [numB]), HI0, HR0, HB0, hWs⟩
  case round =>
    obtain ⟨k, hk, rfl, HN, HA, HR, HB, hsz⟩ := hrel
    rename World => W0
    clear HI0 HR0 HB0
    by_cases hlk : k < l
    · obtain ⟨z, hz⟩ : ∃ z, zs[k]? = some z := ⟨_, List.getElem?_eq_getElem (by omega)⟩
      obtain ⟨b, o, eb, hb, hc⟩ := (HI.out W0 HB.out).hcell (by omega)
      subst eb
      have ck := hc k hlk
      rw [show zs.getD k 0 = z by simp [List.getD, hz]] at ck
      have HZM := hid (List.mem_of_getElem? hz)
      have HNT : Hid (numB n (zs.take (k + 1)) = (numB n (zs.take k) && (decide (0 ≤ z) && decide (z < (n : Int))))) := hid (by unfold numB; rw [List.take_add_one, hz]; simp)
      have HIT := hid (inB_take hz)
      clear hc hz
      by_cases g1 : z < 0
      · have HNO : Hid (numB n zs = false) := hid (by
          cases e : numB n zs with
          | false => rfl
          | true => have := numB_iff.1 e z HZM.out; omega)
        go_wp2_with (first | (refine wpList_load_raw rfl 147 (.tmp 6) rfl (w.heap.size + 1) 6 _ _ rfl HA.out Try.underlying147 rfl Try.sixSize ?_) | (refine wpList_store_raw rfl 147 (.tmp 4) (.tmp 27) rfl w.heap.size 6 _ rfl rfl (HR.out.there 0 6 (by omega)) Try.sixSize (six_one _) ?_))
        intro w3 S3
        have HB3 := hid (S3.bel _ _ (Nat.le_refl _) HB.out)
        have RG := S3.at_.rng
        clear S3
        go_wp2_with fail
        refine ret_cells_tmp (cs := rv (fun i => Value.bool (inB (zs.take k) i)) 6) (v := .bool false) (b := w.heap.size) Try.results77 ?_ ?_ ?_ ?_ Try.underlying147 rfl (by rw [rv_len]; exact Try.sixSize) ?_
        · rfl
        · rfl
        · rfl
        · exact RG
        · unfold Amonged
          exact ⟨inB (zs.take k), (by rw [HNO.out]; rfl), (fun h => by rw [HNO.out] at h; cases h), HB3.out⟩
      · have g1' : decide (z < 0) = false := by simp; omega
        by_cases g2 : (n : Int) ≤ z
        · have HNO : Hid (numB n zs = false) := hid (by
            cases e : numB n zs with
            | false => rfl
            | true => have := numB_iff.1 e z HZM.out; omega)
          go_wp2_with (first | (refine wpList_load_raw rfl 147 (.tmp 6) rfl (w.heap.size + 1) 6 _ _ rfl HA.out Try.underlying147 rfl Try.sixSize ?_) | (refine wpList_store_raw rfl 147 (.tmp 4) (.tmp 27) rfl w.heap.size 6 _ rfl rfl (HR.out.there 0 6 (by omega)) Try.sixSize (six_one _) ?_))
          intro w3 S3
          have HB3 := hid (S3.bel _ _ (Nat.le_refl _) HB.out)
          have RG := S3.at_.rng
          clear S3
          go_wp2_with fail
          refine ret_cells_tmp (cs := rv (fun i => Value.bool (inB (zs.take k) i)) 6) (v := .bool false) (b := w.heap.size) Try.results77 ?_ ?_ ?_ ?_ Try.underlying147 rfl (by rw [rv_len]; exact Try.sixSize) ?_
          · rfl
          · rfl
          · rfl
          · exact RG
          · unfold Amonged
            exact ⟨inB (zs.take k), (by rw [HNO.out]; rfl), (fun h => by rw [HNO.out] at h; cases h), HB3.out⟩
        · have g2' : decide ((n : Int) ≤ z) = false := by simp; omega
          obtain ⟨m, rfl⟩ : ∃ m : Nat, z = (m : Int) := ⟨z.toNat, by omega⟩
          have g2n : decide (n ≤ m) = false := by simp; omega
          have g3 : decide ((6 : Int) ≤ (m : Int)) = false := by simp; omega
          have g3n : decide (6 ≤ m) = false := by simp; omega
          have hm6 : m < 6 := by omega
          have HN2 : Hid (numB n (zs.take (k + 1)) = true) := hid (by
            rw [HNT.out, HN.out]
            have e1 : decide ((0 : Int) ≤ (m : Int)) = true := by simp
            have e2 : decide ((m : Int) < (n : Int)) = true := by simp; omega
            rw [e1, e2]; rfl)
          have a0 := HA.out.c m hm6
          have a1 := HA.out.f m hm6
          have HA2 := hid (HA.out.set m (.bool true))
          have HA3 := hid (HA2.out.congr (d := fun i => Value.bool (inB (zs.take (k + 1)) i)) (fun j hj => by
            unfold updV
            rw [HIT.out j]
            by_cases e : j = m
            · subst e; simp
            · rw [if_neg e]
              have : ((m : Int) == (j : Int)) = false := beq_eq_false_iff_ne.2 (by omega)
              rw [this]; simp))
          have HR2 := hid (HR.out.other ⟨w.heap.size + 1, m, none⟩ (.bool true) (by show w.heap.size + 1 ≠ w.heap.size; omega))
          have HB2 := hid (HB.out.setCell (p := ⟨w.heap.size + 1, m, none⟩) (by show w.heap.size ≤ w.heap.size + 1; omega) (.bool true))
          have i1 : (0 : Int) ≤ (m : Int) := by omega
          have i2 : (m : Int) < 6 := by omega
          clear g1 g2
          go_wp2_with fail
          go_roundw
          case rel => exact ⟨k + 1, by omega, by go_num, HN2, HA3, HR2, HB2, by simp; omega⟩
          case measure => simp [intOf] <;> omega
    · obtain rfl : k = l := by omega
      have HFL : Hid (zs.take k = zs) := hid (List.take_of_length_le (by omega))
      have HYES : Hid (numB n zs = true) := hid (by have := HN.out; rwa [HFL.out] at this)
      rw [HFL.out] at HA
      go_wp2_with (first | (refine wpList_load_raw rfl 147 (.tmp 6) rfl (w.heap.size + 1) 6 _ _ rfl HA.out Try.underlying147 rfl Try.sixSize ?_) | (refine wpList_store_raw rfl 147 (.tmp 4) (.tmp 31) rfl w.heap.size 6 _ rfl rfl (HR.out.there 0 6 (by omega)) Try.sixSize (six_one _) ?_))
      intro w3 S3
      have HB3 := hid (S3.bel _ _ (Nat.le_refl _) HB.out)
      have RG := S3.at_.rng
      clear S3
      go_wp2_with fail
      refine ret_cells_tmp (cs := rv (fun i => Value.bool (inB zs i)) 6) (v := .bool true) (b := w.heap.size) Try.results77 ?_ ?_ ?_ ?_ Try.underlying147 rfl (by rw [rv_len]; exact Try.sixSize) ?_
      · rfl
      · rfl
      · rfl
      · exact RG
      · unfold Amonged
        exact ⟨inB zs, by rw [HYES.out]; rfl, fun _ j _ => rfl, HB3.out⟩

/-- The nodes to which edges go from a node. -/
def outZ (i : Nat) (zs : List Int) : List Int := if zs.length = 0 then [(i : Int)] else zs

set_option maxHeartbeats 4000000 in
set_option maxRecDepth 100000 in
theorem edges_any (a : Option Addr) (l c i n : Nat) (zs : List Int) (w : World) (h : Ints w a l c zs) (hn : n ≤ 6) :
    Calls Try.prog 78 #[.slice a l c, .int .i64 (i : Nat), .int .i64 (n : Nat)] w (Amonged n (outZ i zs) w) := by
  have hl := h.hlen
  have hcap := h.hcap
  have hmax := h.hmax
  have ba := (Below.refl w.heap.size w).alloc (Nat.le_refl _) (.cells #[.bool false, .bool false, .bool false, .bool false, .bool false, .bool false] 147)
  have R0 : RawAt (w.alloc (.cells #[.bool false, .bool false, .bool false, .bool false, .bool false, .bool false] 147)) w.heap.size 6 (fun _ => Value.bool false) := raw_new w (fun _ => Value.bool false) 6 147
  have HR0 := hid R0
  have HB0 := hid ba
  by_cases h0 : l = 0
  · subst h0
    have HO : Hid (outZ i zs = [(i : Int)]) := hid (by unfold outZ; rw [if_pos hl])
    have b1 := (Below.refl (w.heap.size + 1) (w.alloc (.cells #[.bool false, .bool false, .bool false, .bool false, .bool false, .bool false] 147))).alloc (by simp) (.cells #[.int .i64 (i : Nat)] 3)
    have HR1 := hid (R0.below b1 (by omega))
    have HB1 := hid (ba.trans (b1.mono (by omega)))
    have I1 : Ints ((w.alloc (.cells #[.bool false, .bool false, .bool false, .bool false, .bool false, .bool false] 147)).alloc (.cells #[.int .i64 (i : Nat)] 3)) (some ⟨w.heap.size + 1, 0, none⟩) 1 1 [(i : Int)] := by
      have h1 := ints_one (w.alloc (.cells #[.bool false, .bool false, .bool false, .bool false, .bool false, .bool false] 147)) i
      rw [show (w.alloc (.cells #[.bool false, .bool false, .bool false, .bool false, .bool false, .bool false] 147)).heap.size = w.heap.size + 1 by simp] at h1
      exact h1
    have AM := hid (among_any _ 1 1 n [(i : Int)] _ I1 hn)
    clear ba R0 b1 I1 h
    rw [HO.out]
    go_enter Try.func78, Try.ntmps78
    go_wp2_with fail
    refine (AM.out.mono ?_)
    intro e w2 ham
    unfold Amonged at ham
    obtain ⟨f, rfl, hf, hb2⟩ := ham
    simp only [World.size_alloc] at hb2
    have HR2 := hid (HR1.out.below hb2 (by omega))
    have HB2 := hid (HB1.out.trans (hb2.mono (by omega)))
    have HF := hid hf
    clear hf hb2 AM
    go_wp2_with (refine wpList_store_raw rfl 147 (.tmp 6) (.tmp 15) rfl w.heap.size 6 (fun i => Value.bool (f i)) rfl rfl (HR2.out.there 0 6 (by omega)) Try.sixSize (six_one _) ?_)
    intro w3 S3
    have HB3 := hid (S3.bel _ _ (Nat.le_refl _) HB2.out)
    have RG := S3.at_.rng
    clear S3
    go_wp2_with fail
    refine ret_cells_tmp (cs := rv (fun i => Value.bool (f i)) 6) (v := .bool (numB n [(i : Int)])) (b := w.heap.size) Try.results78 ?_ ?_ ?_ ?_ Try.underlying147 rfl (by rw [rv_len]; exact Try.sixSize) ?_
    · rfl
    · rfl
    · rfl
    · exact RG
    · unfold Amonged
      exact ⟨f, rfl, HF.out, HB3.out⟩
  · have HO : Hid (outZ i zs = zs) := hid (by unfold outZ; rw [if_neg (by omega)])
    have AM := hid (among_any a l c n zs _ (h.below ba) hn)
    have hz : ((l : Int) == 0) = false := beq_eq_false_iff_ne.2 (by omega)
    clear ba R0 h
    rw [HO.out]
    go_enter Try.func78, Try.ntmps78
    go_wp2_with fail
    refine (AM.out.mono ?_)
    intro e w2 ham
    unfold Amonged at ham
    obtain ⟨f, rfl, hf, hb2⟩ := ham
    simp only [World.size_alloc] at hb2
    have HR2 := hid (HR0.out.below hb2 (by omega))
    have HB2 := hid (HB0.out.trans (hb2.mono (by omega)))
    have HF := hid hf
    clear hf hb2 AM
    go_wp2_with (refine wpList_store_raw rfl 147 (.tmp 6) (.tmp 20) rfl w.heap.size 6 (fun i => Value.bool (f i)) rfl rfl (HR2.out.there 0 6 (by omega)) Try.sixSize (six_one _) ?_)
    intro w3 S3
    have HB3 := hid (S3.bel _ _ (Nat.le_refl _) HB2.out)
    have RG := S3.at_.rng
    clear S3
    go_wp2_with fail
    refine ret_cells_tmp (cs := rv (fun i => Value.bool (f i)) 6) (v := .bool (numB n zs)) (b := w.heap.size) Try.results78 ?_ ?_ ?_ ?_ Try.underlying147 rfl (by rw [rv_len]; exact Try.sixSize) ?_
    · rfl
    · rfl
    · rfl
    · exact RG
    · unfold Amonged
      exact ⟨f, rfl, HF.out, HB3.out⟩

end Go.Proofs.Ytjagijohfkffiab

/- The walk of add, once more: what else stays. -/
namespace Go.Proofs.Ytjagijohfkffiab
open Go.RowKit
set_option linter.unusedVariables false

set_option maxHeartbeats 8000000 in
set_option maxRecDepth 100000 in
theorem wadd_more (T g2 n fr l to : Nat) (V : Nat → Value) (tl : Nat → List (Nat × Nat)) (w : World) (hm : WyM w T g2 n V tl) (hn : n ≤ 1099511627776) (hfr : fr < n) (hl : l < 8) (hto : to < n) (hlen : (tl to).length ≤ 1099511627776) :
    Calls Try.prog 112 #[.pointer (some ⟨T, 0, none⟩), .int .i64 fr, .int .i64 l, .int .i64 to] w fun e w' => e = .returned (.tuple #[]) ∧ (∃ V', WyM w' T g2 n V' (updW tl to (tl to ++ [(fr, l)])) ∧ ∀ NB, NB < w.heap.size → NB ≠ g2 → (∀ j, j < n → (V j).ownBlock ≠ some NB) → (∀ o, w'.cell? ⟨NB, o, none⟩ = w.cell? ⟨NB, o, none⟩) ∧ ∀ j, j < n → (V' j).ownBlock ≠ some NB) ∧ Below g2 w w' := by
  obtain ⟨i0, hi, hz0, hz1, hz2⟩ := info_parts Try.infoStep
  have cT := hm.cell
  have hT := hm.Tlt
  have hgT := hm.lt
  have own := hm.row to hto
  have cV : w.cell? ⟨g2, to, none⟩ = some (V to) := (hm.out.cellAt to (by omega)).trans (by simp [List.getElem?_map, List.getElem?_range hto])
  have HM := hid hm
  have hg2 : g2 < w.heap.size := by omega
  obtain ⟨ao, cp, eV⟩ := own_slice own
  have HV := hid eV
  rw [eV] at cV own
  generalize hln : (tl to).length = ln at *
  have HLN := hid hln
  have OW := hid own
  clear hm eV hln own
  go_enter Try.func112, Try.ntmps112
  go_wp2_with fail
  refine wp_region_held_drew (S := fun w' => w'.cell? ⟨T, 0, none⟩ = some (.slice (some ⟨g2, 0, none⟩) n n)) (by kernel_rfl) cT (fun hHeld => ?_)
  refine wpAnyH_take (i := 0) (oi := { dst := some 36, op := Op.move (.tmp 0), type := _, pos := _, after := _, guard := none }) (v := (Value.pointer (some ⟨T, 0, none⟩))) rfl (by kernel_rfl) (by kernel_rfl) (by kernel_rfl) (fun _ _ _ h => h) (Or.inl ⟨by rfl, by intro w' hSw; (try dsimp only at hSw); go_simp⟩) (by assumption) ?_
  simp only [Act.put, List.setIfInBounds_toArray, List.set_cons_zero, List.set_cons_succ]
  refine wpAnyH_take (i := 1) (oi := { dst := some 37, op := Op.nilCheck (.tmp 36), type := _, pos := _, after := _, guard := none }) (v := (Value.pointer (some ⟨T, 0, none⟩))) rfl (by kernel_rfl) (by kernel_rfl) (by kernel_rfl) (fun _ _ _ h => h) (Or.inl ⟨by rfl, by intro w' hSw; (try dsimp only at hSw); go_simp⟩) (by assumption) ?_
  simp only [Act.put, List.setIfInBounds_toArray, List.set_cons_zero, List.set_cons_succ]
  refine wpAnyH_take (i := 2) (oi := { dst := some 38, op := Op.fieldAddr _ (.tmp 37) 0, type := _, pos := _, after := _, guard := none }) (v := (Value.pointer (some ⟨T, 0, none⟩))) rfl (by kernel_rfl) (by kernel_rfl) (by kernel_rfl) (fun _ _ _ h => h) (Or.inl ⟨by rfl, by intro w' hSw; (try dsimp only at hSw); go_simp⟩) (by assumption) ?_
  simp only [Act.put, List.setIfInBounds_toArray, List.set_cons_zero, List.set_cons_succ]
  refine wpAnyH_take (i := 3) (oi := { dst := some 39, op := Op.load _ (.tmp 38), type := _, pos := _, after := _, guard := none }) (v := (Value.slice (some ⟨g2, 0, none⟩) n n)) rfl (by kernel_rfl) (by kernel_rfl) (by kernel_rfl) (fun _ _ _ h => h) (Or.inl ⟨by rfl, by intro w' hSw; (try dsimp only at hSw); go_simp⟩) (by assumption) ?_
  simp only [Act.put, List.setIfInBounds_toArray, List.set_cons_zero, List.set_cons_succ]
  refine wpAnyH_take (i := 4) (oi := { dst := some 40, op := Op.move (.tmp 3), type := _, pos := _, after := _, guard := none }) (v := (Value.int .i64 (to : Nat))) rfl (by kernel_rfl) (by kernel_rfl) (by kernel_rfl) (fun _ _ _ h => h) (Or.inl ⟨by rfl, by intro w' hSw; (try dsimp only at hSw); go_simp⟩) (by assumption) ?_
  simp only [Act.put, List.setIfInBounds_toArray, List.set_cons_zero, List.set_cons_succ]
  refine wpAnyH_take (i := 5) (oi := { dst := some 41, op := Op.move (.tmp 0), type := _, pos := _, after := _, guard := none }) (v := (Value.pointer (some ⟨T, 0, none⟩))) rfl (by kernel_rfl) (by kernel_rfl) (by kernel_rfl) (fun _ _ _ h => h) (Or.inl ⟨by rfl, by intro w' hSw; (try dsimp only at hSw); go_simp⟩) (by assumption) ?_
  simp only [Act.put, List.setIfInBounds_toArray, List.set_cons_zero, List.set_cons_succ]
  refine wpAnyH_take (i := 6) (oi := { dst := some 42, op := Op.nilCheck (.tmp 41), type := _, pos := _, after := _, guard := none }) (v := (Value.pointer (some ⟨T, 0, none⟩))) rfl (by kernel_rfl) (by kernel_rfl) (by kernel_rfl) (fun _ _ _ h => h) (Or.inl ⟨by rfl, by intro w' hSw; (try dsimp only at hSw); go_simp⟩) (by assumption) ?_
  simp only [Act.put, List.setIfInBounds_toArray, List.set_cons_zero, List.set_cons_succ]
  refine wpAnyH_take (i := 7) (oi := { dst := some 43, op := Op.fieldAddr _ (.tmp 42) 0, type := _, pos := _, after := _, guard := none }) (v := (Value.pointer (some ⟨T, 0, none⟩))) rfl (by kernel_rfl) (by kernel_rfl) (by kernel_rfl) (fun _ _ _ h => h) (Or.inl ⟨by rfl, by intro w' hSw; (try dsimp only at hSw); go_simp⟩) (by assumption) ?_
  simp only [Act.put, List.setIfInBounds_toArray, List.set_cons_zero, List.set_cons_succ]
  refine wpAnyH_take (i := 8) (oi := { dst := some 44, op := Op.load _ (.tmp 43), type := _, pos := _, after := _, guard := none }) (v := (Value.slice (some ⟨g2, 0, none⟩) n n)) rfl (by kernel_rfl) (by kernel_rfl) (by kernel_rfl) (fun _ _ _ h => h) (Or.inl ⟨by rfl, by intro w' hSw; (try dsimp only at hSw); go_simp⟩) (by assumption) ?_
  simp only [Act.put, List.setIfInBounds_toArray, List.set_cons_zero, List.set_cons_succ]
  refine wpAnyH_take (i := 9) (oi := { dst := some 45, op := Op.move (.tmp 3), type := _, pos := _, after := _, guard := none }) (v := (Value.int .i64 (to : Nat))) rfl (by kernel_rfl) (by kernel_rfl) (by kernel_rfl) (fun _ _ _ h => h) (Or.inl ⟨by rfl, by intro w' hSw; (try dsimp only at hSw); go_simp⟩) (by assumption) ?_
  simp only [Act.put, List.setIfInBounds_toArray, List.set_cons_zero, List.set_cons_succ]
  refine wpAnyH_take (i := 10) (oi := { dst := some 46, op := Op.indexAddr _ (.tmp 44) (.tmp 45), type := _, pos := _, after := _, guard := none }) (v := (Value.pointer (some ⟨g2, to, none⟩))) rfl (by kernel_rfl) (by kernel_rfl) (by kernel_rfl) (fun _ _ _ h => h) (Or.inl ⟨by rfl, by intro w' hSw; (try dsimp only at hSw); go_simp⟩) (by assumption) ?_
  simp only [Act.put, List.setIfInBounds_toArray, List.set_cons_zero, List.set_cons_succ]
  refine wpAnyH_take (i := 12) (oi := { dst := some 48, op := Op.move (.tmp 1), type := _, pos := _, after := _, guard := none }) (v := (Value.int .i64 (fr : Nat))) rfl (by kernel_rfl) (by kernel_rfl) (by kernel_rfl) (fun _ _ _ h => h) (Or.inl ⟨by rfl, by intro w' hSw; (try dsimp only at hSw); go_simp⟩) (by assumption) ?_
  simp only [Act.put, List.setIfInBounds_toArray, List.set_cons_zero, List.set_cons_succ]
  refine wpAnyH_take (i := 13) (oi := { dst := some 49, op := Op.move (.tmp 2), type := _, pos := _, after := _, guard := none }) (v := (Value.int .i64 (l : Nat))) rfl (by kernel_rfl) (by kernel_rfl) (by kernel_rfl) (fun _ _ _ h => h) (Or.inl ⟨by rfl, by intro w' hSw; (try dsimp only at hSw); go_simp⟩) (by assumption) ?_
  simp only [Act.put, List.setIfInBounds_toArray, List.set_cons_zero, List.set_cons_succ]
  refine wpAnyH_take (i := 14) (oi := { dst := some 50, op := Op.build _ #[(0, .tmp 48), (1, .tmp 49)], type := _, pos := _, after := _, guard := none }) (v := (Value.agg #[Value.int .i64 (fr : Nat), Value.int .i64 (l : Nat)])) rfl (by kernel_rfl) (by kernel_rfl) (by kernel_rfl) (fun _ _ _ h => h) (Or.inl ⟨by rfl, by intro w' hSw; (try dsimp only at hSw); go_simp⟩) (by assumption) ?_
  simp only [Act.put, List.setIfInBounds_toArray, List.set_cons_zero, List.set_cons_succ]
  refine wpAnyH_ready (rs := [11, 15]) (by kernel_rfl) (by simp) ?_
  refine AllReadyH.cons rfl (fun K hK => ?_) (AllReadyH.cons rfl (fun K hK => ?_) AllReadyH.nil)
  · go_simp
    refine hK.out _ _ (by assumption) (fun hHeld => ?_)
    clear hK K
    refine wpAnyH_ready (rs := [15]) (by kernel_rfl) (by simp) ?_
    refine AllReadyH.cons rfl (fun K hK => ?_) AllReadyH.nil
    go_simp
    refine hK.out _ _ ?hs (fun hHeld => ?_)
    case hs => first | go_keep | simp [*]
    clear hK K
    refine wpAnyH_ready (rs := [16]) (by kernel_rfl) (by simp) ?_
    refine AllReadyH.cons rfl (fun K hK => ?_) AllReadyH.nil
    refine step_append_lies _ (by rfl) (.tmp 47) (.tmp 51) 210 (by rfl) (T + 1) 212 i0 (.agg #[.int .i64 0, .int .i64 0]) 2 16 Try.underlying210 hi hz0 hz1 hz2 rfl (by decide) _ ln (flatW (tl to)) (by rfl) ((OW.out.alloc _).drew) ⟨w.heap.size, 0, none⟩ 1 1 [.int .i64 (fr : Nat), .int .i64 (l : Nat)] (by rfl) (by rfl) (World.news_of_block (cs := #[.int .i64 (fr : Nat), .int .i64 (l : Nat)]) (t := 212) (fr := (0, 0)) (heap_alloc_new w _)) (by simp [Value.oneCell']) (by decide) (by unfold maxLen; omega) (by omega) (by simp; omega) (w.heap.size + 1) (by simp) ?_
    intro gg cc w2 hown hgrow hat hlt2
    have HMA : WyM (w.alloc (.cells #[.int .i64 (fr : Nat), .int .i64 (l : Nat)] 212)).drew T g2 n V tl := HM.out.keeps (below_drewN ((Below.refl w.heap.size w).alloc (Nat.le_refl _) (.cells #[.int .i64 (fr : Nat), .int .i64 (l : Nat)] 212)) 1)
    have hgrow' : (w.alloc (.cells #[.int .i64 (fr : Nat), .int .i64 (l : Nat)] 212)).drew.grownBy w2 (V to).ownBlock := by rw [HV.out]; exact hgrow
    have O2 := HMA.out.kept hgrow' (own_ne' HMA.out (HMA.row to hto) (by decide))
    have d1 := O2.frozenAt to
    have d0 : w2.cell? ⟨g2, to, none⟩ = some (V to) := (O2.cellAt to (by omega)).trans (by simp [List.getElem?_map, List.getElem?_range hto])
    have bw2 : Below (T + 1) w w2 := (below_drewN ((Below.refl (T + 1) w).alloc (by omega) (.cells #[.int .i64 (fr : Nat), .int .i64 (l : Nat)] 212)) 1).grown hgrow (by show T + 1 ≤ (w.alloc (.cells #[.int .i64 (fr : Nat), .int .i64 (l : Nat)] 212)).heap.size; rw [World.size_alloc]; omega) (fun x h => (OW.out.lt x h).1)
    have TM := hid (wym_push HMA hto (s := (fr, l)) hgrow' (by rw [HLN.out]; exact hown) (by rw [HV.out]; rcases hat with h | h; exact Or.inl h; exact Or.inr (by rw [h]; exact (World.size_alloc ..).symm)))
    rw [HLN.out] at TM
    have BB := hid ((bw2.mono (by omega : g2 ≤ T + 1)).setCell (p := ⟨g2, to, none⟩) (Nat.le_refl _) (.slice (some ⟨gg, 0, none⟩) (ln + 1) cc))
    have MORE : Hid (∀ NB, NB < w.heap.size → NB ≠ g2 → (∀ j, j < n → (V j).ownBlock ≠ some NB) → (∀ o, (w2.setCell ⟨g2, to, none⟩ (.slice (some ⟨gg, 0, none⟩) (ln + 1) cc)).cell? ⟨NB, o, none⟩ = w.cell? ⟨NB, o, none⟩) ∧ ∀ j, j < n → ((fun i => if i = to then Value.slice (some ⟨gg, 0, none⟩) (ln + 1) cc else V i) j).ownBlock ≠ some NB) := hid (fun NB h1 h2 h3 => by
      refine ⟨fun o => ?_, fun j hj => ?_⟩
      · rw [World.cell?_setCell_other _ _ _ _ (fun e => h2 (by have := congrArg Addr.block e; simpa using this.symm))]
        rw [hgrow'.cell_far ⟨NB, o, none⟩ (by show NB < (w.alloc (.cells #[.int .i64 (fr : Nat), .int .i64 (l : Nat)] 212)).heap.size; rw [World.size_alloc]; omega) (fun e => h3 to hto e.symm)]
        show (w.alloc (.cells #[.int .i64 (fr : Nat), .int .i64 (l : Nat)] 212)).cell? ⟨NB, o, none⟩ = _
        rw [World.cell?_alloc_lt _ _ _ h1]
      · by_cases e : j = to
        · simp only [e, if_true]
          rcases hat with h | h
          · intro e2
            have h4 := h3 to hto
            rw [HV.out, h] at h4
            exact h4 e2
          · intro e2
            simp [Value.ownBlock] at e2
            omega
        · simp only [e, if_false]
          exact h3 j hj)
    have e1 : w2.cell? ⟨T, 0, none⟩ = some (.slice (some ⟨g2, 0, none⟩) n n) := (bw2.cell (p := ⟨T, 0, none⟩) (Nat.lt_succ_self _)).trans cT
    have HS5 := hid (TM.out.cell)
    refine hK.out _ _ e1 (fun hHeld => ?_)
    clear hK K O2 HMA bw2 hown hgrow hgrow' hat
    simp only [Act.put, List.setIfInBounds_toArray]
    refine wpAnyH_take (i := 17) (oi := { dst := some 53, op := Op.indexAddr _ (.tmp 39) (.tmp 40), type := _, pos := _, after := _, guard := none }) (v := (Value.pointer (some ⟨g2, to, none⟩))) rfl (by kernel_rfl) (by kernel_rfl) (by kernel_rfl) (fun _ _ _ h => h) (Or.inl ⟨by rfl, by intro w' hSw; (try dsimp only at hSw); go_simp⟩) (by assumption) ?_
    simp only [Act.put]
    refine wpAnyH_ready (rs := [18]) (by kernel_rfl) (by simp) ?_
    refine AllReadyH.cons rfl (fun K hK => ?_) AllReadyH.nil
    go_simp
    refine hK.out _ _ HS5.out (fun hHeld => ?_)
    clear hK K
    refine wpAnyH_done (by kernel_rfl) ?_ _
    clear hHeld e1 d0 d1
    go_wp2_with fail
    go_end0
    exact ⟨rfl, ⟨_, TM.out, MORE.out⟩, BB.out⟩
  · go_simp
    refine hK.out _ _ ?hs (fun hHeld => ?_)
    case hs => first | go_keep | simp [*]
    clear hK K
    refine wpAnyH_ready (rs := [11]) (by kernel_rfl) (by simp) ?_
    refine AllReadyH.cons rfl (fun K hK => ?_) AllReadyH.nil
    go_simp
    refine hK.out _ _ (by assumption) (fun hHeld => ?_)
    clear hK K
    refine wpAnyH_ready (rs := [16]) (by kernel_rfl) (by simp) ?_
    refine AllReadyH.cons rfl (fun K hK => ?_) AllReadyH.nil
    refine step_append_lies _ (by rfl) (.tmp 47) (.tmp 51) 210 (by rfl) (T + 1) 212 i0 (.agg #[.int .i64 0, .int .i64 0]) 2 16 Try.underlying210 hi hz0 hz1 hz2 rfl (by decide) _ ln (flatW (tl to)) (by rfl) ((OW.out.alloc _).drew) ⟨w.heap.size, 0, none⟩ 1 1 [.int .i64 (fr : Nat), .int .i64 (l : Nat)] (by rfl) (by rfl) (World.news_of_block (cs := #[.int .i64 (fr : Nat), .int .i64 (l : Nat)]) (t := 212) (fr := (0, 0)) (heap_alloc_new w _)) (by simp [Value.oneCell']) (by decide) (by unfold maxLen; omega) (by omega) (by simp; omega) (w.heap.size + 1) (by simp) ?_
    intro gg cc w2 hown hgrow hat hlt2
    have HMA : WyM (w.alloc (.cells #[.int .i64 (fr : Nat), .int .i64 (l : Nat)] 212)).drew T g2 n V tl := HM.out.keeps (below_drewN ((Below.refl w.heap.size w).alloc (Nat.le_refl _) (.cells #[.int .i64 (fr : Nat), .int .i64 (l : Nat)] 212)) 1)
    have hgrow' : (w.alloc (.cells #[.int .i64 (fr : Nat), .int .i64 (l : Nat)] 212)).drew.grownBy w2 (V to).ownBlock := by rw [HV.out]; exact hgrow
    have O2 := HMA.out.kept hgrow' (own_ne' HMA.out (HMA.row to hto) (by decide))
    have d1 := O2.frozenAt to
    have d0 : w2.cell? ⟨g2, to, none⟩ = some (V to) := (O2.cellAt to (by omega)).trans (by simp [List.getElem?_map, List.getElem?_range hto])
    have bw2 : Below (T + 1) w w2 := (below_drewN ((Below.refl (T + 1) w).alloc (by omega) (.cells #[.int .i64 (fr : Nat), .int .i64 (l : Nat)] 212)) 1).grown hgrow (by show T + 1 ≤ (w.alloc (.cells #[.int .i64 (fr : Nat), .int .i64 (l : Nat)] 212)).heap.size; rw [World.size_alloc]; omega) (fun x h => (OW.out.lt x h).1)
    have TM := hid (wym_push HMA hto (s := (fr, l)) hgrow' (by rw [HLN.out]; exact hown) (by rw [HV.out]; rcases hat with h | h; exact Or.inl h; exact Or.inr (by rw [h]; exact (World.size_alloc ..).symm)))
    rw [HLN.out] at TM
    have BB := hid ((bw2.mono (by omega : g2 ≤ T + 1)).setCell (p := ⟨g2, to, none⟩) (Nat.le_refl _) (.slice (some ⟨gg, 0, none⟩) (ln + 1) cc))
    have MORE : Hid (∀ NB, NB < w.heap.size → NB ≠ g2 → (∀ j, j < n → (V j).ownBlock ≠ some NB) → (∀ o, (w2.setCell ⟨g2, to, none⟩ (.slice (some ⟨gg, 0, none⟩) (ln + 1) cc)).cell? ⟨NB, o, none⟩ = w.cell? ⟨NB, o, none⟩) ∧ ∀ j, j < n → ((fun i => if i = to then Value.slice (some ⟨gg, 0, none⟩) (ln + 1) cc else V i) j).ownBlock ≠ some NB) := hid (fun NB h1 h2 h3 => by
      refine ⟨fun o => ?_, fun j hj => ?_⟩
      · rw [World.cell?_setCell_other _ _ _ _ (fun e => h2 (by have := congrArg Addr.block e; simpa using this.symm))]
        rw [hgrow'.cell_far ⟨NB, o, none⟩ (by show NB < (w.alloc (.cells #[.int .i64 (fr : Nat), .int .i64 (l : Nat)] 212)).heap.size; rw [World.size_alloc]; omega) (fun e => h3 to hto e.symm)]
        show (w.alloc (.cells #[.int .i64 (fr : Nat), .int .i64 (l : Nat)] 212)).cell? ⟨NB, o, none⟩ = _
        rw [World.cell?_alloc_lt _ _ _ h1]
      · by_cases e : j = to
        · simp only [e, if_true]
          rcases hat with h | h
          · intro e2
            have h4 := h3 to hto
            rw [HV.out, h] at h4
            exact h4 e2
          · intro e2
            simp [Value.ownBlock] at e2
            omega
        · simp only [e, if_false]
          exact h3 j hj)
    have e1 : w2.cell? ⟨T, 0, none⟩ = some (.slice (some ⟨g2, 0, none⟩) n n) := (bw2.cell (p := ⟨T, 0, none⟩) (Nat.lt_succ_self _)).trans cT
    have HS5 := hid (TM.out.cell)
    refine hK.out _ _ e1 (fun hHeld => ?_)
    clear hK K O2 HMA bw2 hown hgrow hgrow' hat
    simp only [Act.put, List.setIfInBounds_toArray]
    refine wpAnyH_take (i := 17) (oi := { dst := some 53, op := Op.indexAddr _ (.tmp 39) (.tmp 40), type := _, pos := _, after := _, guard := none }) (v := (Value.pointer (some ⟨g2, to, none⟩))) rfl (by kernel_rfl) (by kernel_rfl) (by kernel_rfl) (fun _ _ _ h => h) (Or.inl ⟨by rfl, by intro w' hSw; (try dsimp only at hSw); go_simp⟩) (by assumption) ?_
    simp only [Act.put]
    refine wpAnyH_ready (rs := [18]) (by kernel_rfl) (by simp) ?_
    refine AllReadyH.cons rfl (fun K hK => ?_) AllReadyH.nil
    go_simp
    refine hK.out _ _ HS5.out (fun hHeld => ?_)
    clear hK K
    refine wpAnyH_done (by kernel_rfl) ?_ _
    clear hHeld e1 d0 d1
    go_wp2_with fail
    go_end0
    exact ⟨rfl, ⟨_, TM.out, MORE.out⟩, BB.out⟩

end Go.Proofs.Ytjagijohfkffiab
