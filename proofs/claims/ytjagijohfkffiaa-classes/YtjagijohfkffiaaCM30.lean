import Derived.Test.YtjagijohfkffiaaCM29

/- The walk of without. -/
namespace Go.Proofs.Ytjagijohfkffiaa
open Go.RowKit
set_option linter.unusedVariables false

theorem WyM.setLow {w : World} {T g2 n : Nat} {V : Nat → Value} {tl : Nat → List (Nat × Nat)} (h : WyM w T g2 n V tl) {b : Nat} (hb : b < g2) (o : Nat) (u : Value) : WyM (w.setCell ⟨b, o, none⟩ u) T g2 n V tl :=
  ⟨h.lt, by rw [World.cell?_setCell_other _ ⟨b, o, none⟩ ⟨T, 0, none⟩ _ (fun q => by have := congrArg Addr.block q; have h2 := h.lt; simp at this; omega)]; exact h.cell, own_set_other h.out hb o u, fun j hj => own_set_other (h.row j hj) (by have := h.lt; omega) o u, h.sep⟩

def arr8 (f : Nat → Nat) : Array Value := #[.int .i64 (f 0 : Nat), .int .i64 (f 1 : Nat), .int .i64 (f 2 : Nat), .int .i64 (f 3 : Nat), .int .i64 (f 4 : Nat), .int .i64 (f 5 : Nat), .int .i64 (f 6 : Nat), .int .i64 (f 7 : Nat)]
theorem Try.intSize1 : (Try.prog.info? 3).map (·.size) = some 1 := by kernel_rfl
theorem run_index_8 (f : Nat → Nat) {l : Nat} (hl : l < 8) (W : World) : (Instr.index 148 (.agg #[.int .i64 (f 0 : Nat), .int .i64 (f 1 : Nat), .int .i64 (f 2 : Nat), .int .i64 (f 3 : Nat), .int .i64 (f 4 : Nat), .int .i64 (f 5 : Nat), .int .i64 (f 6 : Nat), .int .i64 (f 7 : Nat)]) (.int .i64 (l : Nat))).run Try.prog W = .ok (.int .i64 (f l : Nat)) W := by
  refine run_index_one W Try.underlying148 (fun w => run_isAgg_int Try.underlying3 w) Try.intSize1 hl ?_
  have : l = 0 ∨ l = 1 ∨ l = 2 ∨ l = 3 ∨ l = 4 ∨ l = 5 ∨ l = 6 ∨ l = 7 := by omega
  rcases this with rfl | rfl | rfl | rfl | rfl | rfl | rfl | rfl <;> rfl

set_option maxHeartbeats 8000000 in
set_option maxRecDepth 100000 in
theorem without_any (g n cap vd : Nat) (out : Nat → Nat) (nx : Nat → Nat → Nat) (w : World) (h0 : 0 < n) (hn : n ≤ 8589934592) (h : StR w g n out nx) (hnx : ∀ i l, i < n → l < 8 → nx i l < n) :
    Calls Try.prog 122 #[.slice (some ⟨g, 0, none⟩) n cap, .int .i64 (vd : Nat)] w fun e w' => ∃ g2 tl, e = .returned (.agg #[.slice (some ⟨g2, 0, none⟩) n n]) ∧ WaysM w' g2 n tl ∧ WoP out nx vd n 0 tl ∧ Below w.heap.size w w' := by
  have HR := hid h
  have hg := h.lt
  have HNX := hid hnx
  clear h hnx
  obtain ⟨i0, hi, hz0, hz1, hz2⟩ := info_parts Try.infoSteps
  go_enter Try.func122, Try.ntmps122
  go_wp2_with (at_make; go_must (refine wpList_make_full _ rfl (.tmp 11) (.tmp 11) 173 rfl (w.heap.size + 1) 192 i0 (.slice none 0 0) 1 Try.underlying173 hi hz0 hz1 .i64 .i64 n n n rfl rfl rfl rfl ?m2 ?m3 (by simp) ?_))
  case m2 => rw [hz2]; omega
  case m3 => unfold maxLen; omega
  intro w1 own1 grow1
  have eo : (madeCells #[Value.slice none 0 0] n).toList = (List.range n).map (fun _ => Value.slice none 0 0) := by
    rw [toList_madeCells_one]
    exact (List.eq_replicate_iff.2 ⟨by simp, fun b hb => by obtain ⟨_, _, rfl⟩ := List.mem_map.1 hb; rfl⟩).symm
  have o1 : w1.ownsRow (w.heap.size + 1) 192 1 (.slice (some ⟨w.heap.size + 1, 0, none⟩) n n) n ((List.range n).map (fun _ => Value.slice none 0 0)) := by
    rw [← eo]
    exact own1
  have hlt : w.heap.size + 1 < w1.heap.size := (o1.lt _ rfl).2
  have b0 := ((Below.refl (w.heap.size + 1) (w.alloc (.cells #[.slice none 0 0] 175))).grown grow1 (by simp) (fun k h => by cases h))
  have R0 : w1.cell? ⟨w.heap.size, 0, none⟩ = some (.slice none 0 0) := (b0.cell (p := ⟨w.heap.size, 0, none⟩) (by show w.heap.size < w.heap.size + 1; omega)).trans (by simp)
  have R1 : w1.frozen? ⟨w.heap.size, 0, none⟩ = false := (b0.frozen (p := ⟨w.heap.size, 0, none⟩) (by show w.heap.size < w.heap.size + 1; omega)).trans (by simp)
  have HB1 : Hid (Below w.heap.size w w1) := hid (((Below.refl w.heap.size w).alloc (Nat.le_refl _) (.cells #[.slice none 0 0] 175)).trans (b0.mono (by omega)))
  have M1 : Hid (WyM (w1.alloc (.cells #[.slice (some ⟨w.heap.size + 1, 0, none⟩) n n] 175)) w1.heap.size (w.heap.size + 1) n (fun _ => .slice none 0 0) (fun _ => [])) := hid ⟨hlt, by simp, o1.alloc _, fun j hj => World.ownsRow_nil _ _ _ _, fun i j hi hj h => Or.inl rfl⟩
  have HR1 : Hid ((w1.alloc (.cells #[.slice (some ⟨w.heap.size + 1, 0, none⟩) n n] 175)).cell? ⟨w.heap.size, 0, none⟩ = some (.slice none 0 0) ∧ (w1.alloc (.cells #[.slice (some ⟨w.heap.size + 1, 0, none⟩) n n] 175)).frozen? ⟨w.heap.size, 0, none⟩ = false) := hid ⟨by rw [World.cell?_alloc_lt _ _ _ (by show w.heap.size < w1.heap.size; omega)]; exact R0, by rw [World.frozen?_alloc_past _ _ _ (by show w.heap.size < w1.heap.size; omega)]; exact R1⟩
  have HB2 := hid (HB1.out.alloc (by omega) (.cells #[.slice (some ⟨w.heap.size + 1, 0, none⟩) n n] 175))
  clear own1 grow1 eo o1 b0 R0 R1 HB1
  go_wp2_with fail
  generalize w1.heap.size = T at *
  go_loopw [16] (fun i wq => ∃ (k : Nat) (V : Nat → Value) (tl : Nat → List (Nat × Nat)), k ≤ n ∧ i = .int .i64 k ∧ Hid (WoP out nx vd k 0 tl) ∧ Hid (WyM wq T (w.heap.size + 1) n V tl) ∧ Hid (wq.cell? ⟨w.heap.size, 0, none⟩ = some (.slice none 0 0) ∧ wq.frozen? ⟨w.heap.size, 0, none⟩ = false) ∧ Hid (Below w.heap.size w wq)) (fun i _ => n - (intOf i).toNat)
  case atStart => exact ⟨0, _, _, by omega, rfl, hid (wo_start out nx vd), M1, HR1, HB2⟩
  case round =>
    obtain ⟨k, V, tl, hk, rfl, HW, HM, HRR, HB⟩ := hrel
    rename World => W0
    have hTW := HM.out.Tlt
    by_cases hlk : k < n
    · have r := HR.out.below HB.out hg
      have q0 := r.c0 k hlk
      have q1 : W0.cell? ⟨g, k * 9 + 1, none⟩ = some (.int .i64 (nx k 0 : Nat)) := r.c k 0 hlk (by omega)
      have q2 : W0.cell? ⟨g, k * 9 + 2, none⟩ = some (.int .i64 (nx k 1 : Nat)) := r.c k 1 hlk (by omega)
      have q3 : W0.cell? ⟨g, k * 9 + 3, none⟩ = some (.int .i64 (nx k 2 : Nat)) := r.c k 2 hlk (by omega)
      have q4 : W0.cell? ⟨g, k * 9 + 4, none⟩ = some (.int .i64 (nx k 3 : Nat)) := r.c k 3 hlk (by omega)
      have q5 : W0.cell? ⟨g, k * 9 + 5, none⟩ = some (.int .i64 (nx k 4 : Nat)) := r.c k 4 hlk (by omega)
      have q6 : W0.cell? ⟨g, k * 9 + 6, none⟩ = some (.int .i64 (nx k 5 : Nat)) := r.c k 5 hlk (by omega)
      have q7 : W0.cell? ⟨g, k * 9 + 7, none⟩ = some (.int .i64 (nx k 6 : Nat)) := r.c k 6 hlk (by omega)
      have q8 : W0.cell? ⟨g, k * 9 + 8, none⟩ = some (.int .i64 (nx k 7 : Nat)) := r.c k 7 hlk (by omega)
      have hs := HB.out.size
      clear r
      have bal := hid ((Below.refl W0.heap.size W0).alloc (Nat.le_refl _) (.cells #[.int .i64 (out k : Nat), .int .i64 (nx k 0 : Nat), .int .i64 (nx k 1 : Nat), .int .i64 (nx k 2 : Nat), .int .i64 (nx k 3 : Nat), .int .i64 (nx k 4 : Nat), .int .i64 (nx k 5 : Nat), .int .i64 (nx k 6 : Nat), .int .i64 (nx k 7 : Nat)] 150))
      have HM2 := hid (HM.out.keeps bal.out)
      have HR2 := hid (And.intro ((bal.out.cell (p := ⟨w.heap.size, 0, none⟩) (by show w.heap.size < W0.heap.size; omega)).trans HRR.out.1) ((bal.out.frozen (p := ⟨w.heap.size, 0, none⟩) (by show w.heap.size < W0.heap.size; omega)).trans HRR.out.2))
      have HB3 := hid (HB.out.trans (bal.out.mono hs))
      clear bal HM HRR
      go_wp2_with fail
      clear q0 q1 q2 q3 q4 q5 q6 q7 q8
      go_loopw [23] (fun i wq => ∃ (l : Nat) (V : Nat → Value) (tl : Nat → List (Nat × Nat)), l ≤ 8 ∧ i = .int .i64 l ∧ Hid (WoP out nx vd k l tl) ∧ Hid (WyM wq T (w.heap.size + 1) n V tl) ∧ Hid (wq.cell? ⟨w.heap.size, 0, none⟩ = some (.slice none 0 0) ∧ wq.frozen? ⟨w.heap.size, 0, none⟩ = false) ∧ Hid (Below w.heap.size w wq)) (fun i _ => 8 - (intOf i).toNat)
      case atStart => exact ⟨0, V, tl, by omega, rfl, HW, HM2, HR2, HB3⟩
      case round =>
        obtain ⟨l, V, tl, hl, rfl, HW, HM, HRR, HB⟩ := hrel
        rename World => W3
        by_cases hll : l < 8
        · have ix := fun W => run_index_8 (nx k) hll W
          have hto := HNX.out k l hlk hll
          have co := (HR.out.below HB.out hg).c0 (nx k l) hto
          have HLEN := hid (HW.out.len (nx k l))
          have dk : decide (n ≤ nx k l) = false := by simp; omega
          by_cases he : out (nx k l) = vd
          · have HSK := hid (wo_skip HW.out hll he)
            have ke : ((out (nx k l) : Int) != (vd : Int)) = false := by rw [he]; simp
            clear he
            generalize out (nx k l) = ov at *
            generalize nx k l = to at *
            go_wp2_with fail
            go_roundw
            case rel => exact ⟨l + 1, V, tl, by omega, by go_num, HSK, HM, HRR, HB⟩
            case measure => simp [intOf]; omega
          · have HAD := hid (wo_add HW.out hll he)
            have ke : ((out (nx k l) : Int) != (vd : Int)) = true := by rw [bne_iff_ne]; omega
            have AW := hid (wadd_any T (w.heap.size + 1) n k l (nx k l) V tl W3 HM.out (by omega) hlk hll hto (by have := HLEN.out; omega))
            clear he
            generalize out (nx k l) = ov at *
            generalize nx k l = to at *
            go_wp2_with fail
            refine AW.out.mono ?_
            rintro e w5 ⟨rfl, ⟨V5, hm5⟩, hb5⟩
            have HM5 := hid hm5
            have HR5 := hid (And.intro ((hb5.cell (p := ⟨w.heap.size, 0, none⟩) (by show w.heap.size < w.heap.size + 1; omega)).trans HRR.out.1) ((hb5.frozen (p := ⟨w.heap.size, 0, none⟩) (by show w.heap.size < w.heap.size + 1; omega)).trans HRR.out.2))
            have HB5 := hid (HB.out.trans (hb5.mono (by omega)))
            clear hm5 hb5 AW HM HRR HB
            go_wp2_with fail
            go_roundw
            case rel => exact ⟨l + 1, V5, _, by omega, by go_num, HAD, HM5, HR5, HB5⟩
            case measure => simp [intOf]; omega
        · obtain rfl : l = 8 := by omega
          have HNXT := hid (wo_next HW.out)
          go_wp2_with fail
          go_roundw
          case rel => exact ⟨k + 1, V, tl, by omega, by go_num, HNXT, HM, HRR, HB⟩
          case measure => simp [intOf]; omega
    · obtain rfl : k = n := by omega
      have c1 := HM.out.cell
      have r0 := HRR.out.1
      have r1 := HRR.out.2
      have HWW := hid (HM.out.setLow (b := w.heap.size) (by omega) 0 (.slice (some ⟨w.heap.size + 1, 0, none⟩) k k)).ways
      have HB4 := hid (HB.out.setCell (p := ⟨w.heap.size, 0, none⟩) (Nat.le_refl _) (.slice (some ⟨w.heap.size + 1, 0, none⟩) k k))
      have HCC : Hid ((W0.setCell ⟨w.heap.size, 0, none⟩ (.slice (some ⟨w.heap.size + 1, 0, none⟩) k k)).cell? ⟨w.heap.size, 0, none⟩ = some (.slice (some ⟨w.heap.size + 1, 0, none⟩) k k)) := hid (World.cell?_setCell_same _ _ _ r0)
      go_wp2_with fail
      refine ret_ways Try.results122 ?_ ?_ HCC.out ?_
      · rfl
      · rfl
      · exact ⟨_, tl, rfl, HWW.out, HW.out, HB4.out⟩

end Go.Proofs.Ytjagijohfkffiaa

/- The walks of evades, and the Outlook's Class. -/
namespace Go.Proofs.Ytjagijohfkffiaa
open Go.RowKit
set_option linter.unusedVariables false

theorem wo_ways {out : Nat → Nat} {nx : Nat → Nat → Nat} {vd n : Nat} {tl : Nat → List (Nat × Nat)} (h : WoP out nx vd n 0 tl) (hn : n ≤ 8589934592) : WaysP n tl :=
  ⟨hn, fun t ht st hs => by obtain ⟨⟨a, b⟩, _⟩ := (h.mem t st).1 hs; exact ⟨by omega, b⟩, fun t ht => by have := h.len t; omega⟩

def EvP (ns : List Nd) (cs : List (Nat → Bool)) (beg : Nat → Bool) (out : Nat → Nat) (nx : Nat → Nat → Nat) (n vd : Nat) (hd b : Bool) : Prop :=
  ∃ tl, WoP out nx vd n 0 tl ∧ (b = true ↔ ∃ v, v < 256 ∧ Forever (Ew n ns tl) (spreads cs) v ∧ beg v = hd)

set_option maxHeartbeats 8000000 in
set_option maxRecDepth 100000 in
theorem evades_any (P g n cap vd : Nat) (hd : Bool) (ns : List Nd) (liv beg : Nat → Bool) (cs : List (Nat → Bool)) (out : Nat → Nat) (nx : Nat → Nat → Nat) (w : World) (h8 : ns.length ≤ 8) (h0 : 0 < n) (hn : n ≤ 8589934592) (ho : OutM w P ns liv beg) (hcm : CalmM w P cs) (hcl : cs.length ≤ 8) (h : StR w g n out nx) (hnx : ∀ i l, i < n → l < 8 → nx i l < n) :
    Calls Try.prog 98 #[.pointer (some ⟨P, 0, none⟩), .slice (some ⟨g, 0, none⟩) n cap, .int .i64 (vd : Nat), .bool hd] w fun e w' => ∃ b : Bool, e = .returned (.bool b) ∧ EvP ns cs beg out nx n vd hd b ∧ Below w.heap.size w w' := by
  have hP := ho.lt
  have HO := hid ho
  have HC := hid hcm
  have WA := hid (without_any g n cap vd out nx w h0 hn h hnx)
  clear ho hcm h hnx
  have kn : ((n : Int) == 0) = false := beq_eq_false_iff_ne.2 (by omega)
  go_enter Try.func98, Try.ntmps98
  go_wp2_with fail
  refine WA.out.mono ?_
  rintro e w1 ⟨g2, tl, rfl, hw, hwo, hb1⟩
  have HWO := hid hwo
  have hs1 := hb1.size
  have HW := hid (hw.below ((Below.refl w1.heap.size w1).alloc (Nat.le_refl _) (.cells #[.slice (some ⟨g2, 0, none⟩) n n] 175)))
  have HB2 := hid (hb1.alloc hs1 (.cells #[.slice (some ⟨g2, 0, none⟩) n n] 175))
  clear hw hwo hb1 WA
  go_wp2_with fail
  refine (lasting_any P g2 n n ns tl cs _ h8 (wo_ways HWO.out hn) (fun x N hx hN => (HO.out.below HB2.out hP).bef x N hx hN) (by simp; omega) (HC.out.below HB2.out hP) hcl HW.out).mono ?_
  rintro e w3 ⟨g3, f, rfl, hg3, hg3s, F3, HL, hb3⟩
  simp only [World.size_alloc] at hb3 hg3
  have HB3 := hid (HB2.out.trans (hb3.mono (by omega)))
  have F3 : Hid (GrpAt w3 g3 0 f) := hid (by have := F3.grp (t := 0) (by omega); simpa using this)
  have HLV := hid HL
  have OM3 := hid (HO.out.below HB3.out hP)
  clear hb3 HL HB2 HW
  go_wp2_with (refine wpList_load_grp rfl (.tmp 23) rfl g3 0 f rfl F3.out ?_)
  go_loopw [25] (fun i wq => ∃ v : Nat, v ≤ 256 ∧ i = .int .i64 v ∧ wq = w3 ∧ Hid (∀ u, u < v → ¬ (f u = true ∧ beg u = hd))) (fun i _ => 256 - (intOf i).toNat)
  case atStart => exact ⟨0, by omega, rfl, rfl, hid (fun u hu => by omega)⟩
  case round =>
    obtain ⟨v, hv, rfl, rfl, HA⟩ := hrel
    by_cases hlv : v < 256
    · have ix := fun W => run_index_grp f hlv W
      have cb := OM3.out.beg.c v hlv
      cases hf : f v with
      | false =>
        rw [hf] at ix
        have HF := hid hf
        clear hf
        go_wp2_with fail
        go_roundw
        case rel => exact ⟨v + 1, by omega, by go_num, trivial, hid (fun u hu h => by
          by_cases e : u = v
          · subst e; rw [HF.out] at h; cases h.1
          · exact HA.out u (by omega) h)⟩
        case measure => simp [intOf]; omega
      | true =>
        rw [hf] at ix
        have HF := hid hf
        clear hf
        cases he : (beg v == hd) with
        | true =>
          have HE := hid (beq_iff_eq.1 he)
          go_wp2_with fail
          go_ret
          exact ⟨true, rfl, ⟨tl, HWO.out, ⟨fun _ => ⟨v, hlv, (HLV.out v).1 HF.out, HE.out⟩, fun _ => rfl⟩⟩, HB3.out⟩
        | false =>
          have HE := hid (beq_eq_false_iff_ne.1 he)
          go_wp2_with fail
          go_roundw
          case rel => exact ⟨v + 1, by omega, by go_num, trivial, hid (fun u hu h => by
            by_cases e : u = v
            · subst e; exact HE.out h.2
            · exact HA.out u (by omega) h)⟩
          case measure => simp [intOf]; omega
    · obtain rfl : v = 256 := by omega
      go_wp2_with fail
      go_ret
      exact ⟨false, rfl, ⟨tl, HWO.out, ⟨fun h => (by cases h), fun ⟨v, h1, h2, h3⟩ => absurd ⟨(HLV.out v).2 h2, h3⟩ (HA.out v h1)⟩⟩, HB3.out⟩

end Go.Proofs.Ytjagijohfkffiaa

/- The walk of the Outlook's Class. -/
namespace Go.Proofs.Ytjagijohfkffiaa
open Go.RowKit
set_option linter.unusedVariables false

def outU (ns : List Nd) (liv beg : Nat → Bool) (us : List (List Nat)) : Nat → Nat := fun i => verdG liv (runG ns liv beg (us.getD i []))

theorem stR_of {w : World} {B g cap : Nat} {ns : List Nd} {liv beg : Nat → Bool} {us : List (List Nat)} {xs : List Nat} {SS : List St} (hS : StOk ns liv beg us xs SS) (hl : SS.length = us.length) (ho : w.ownsRow B 150 9 (.slice (some ⟨g, 0, none⟩) us.length cap) us.length (flatS SS)) : StR w g us.length (outU ns liv beg us) (nxL xs) := by
  have he := stOk_eight hS
  have key : ∀ i, i < us.length → stAt SS i = ⟨outU ns liv beg us i, (List.range 8).map fun l => ((nxL xs i l : Nat) : Int)⟩ := fun i hi => by
    have hi2 : i < SS.length := by omega
    obtain ⟨u, h1, h2, h3⟩ := hS i SS[i] (List.getElem?_eq_getElem hi2)
    have : stAt SS i = SS[i] := by simp [stAt, List.getD, List.getElem?_eq_getElem hi2]
    rw [this, h3]
    have e : us.getD i [] = u := by simp [List.getD, h1]
    unfold outU nxL
    rw [e]
  refine ⟨(ho.lt _ rfl).2, fun i hi => ?_, fun i m hi hm => ?_⟩
  · have := flatS_get he (show i < SS.length by omega) (show 0 < 9 by omega)
    rw [Nat.add_zero] at this
    rw [ho.cellAt (i * 9) (by omega), this, key i hi]
    rfl
  · have := flatS_get he (show i < SS.length by omega) (show 1 + m < 9 by omega)
    rw [show i * 9 + 1 + m = i * 9 + (1 + m) by omega, ho.cellAt (i * 9 + (1 + m)) (by omega), this, key i hi, Nat.add_comm 1 m]
    simp [stCells, hm]

theorem expl_nx {ns : List Nd} {liv beg : Nat → Bool} {us : List (List Nat)} {xs : List Nat} (h : Expl ns liv beg us xs) (he : xs.length = 8 * us.length) : ∀ i l, i < us.length → l < 8 → nxL xs i l < us.length := fun i l hi hl => by
  obtain ⟨u0, u1, _, h2, _⟩ := h.ok (8 * i + l) (by omega)
  exact (List.getElem?_eq_some_iff.1 h2).1

theorem Try.classSize : (Try.prog.info? 56).map (·.size) = some 3 := by kernel_rfl

/-- What Class tells, by the states. -/
def ClassP (ns : List Nd) (liv beg : Nat → Bool) (cs : List (Nat → Bool)) (sf co lv : Bool) : Prop :=
  ∃ us xs, Expl ns liv beg us xs ∧ xs.length = 8 * us.length ∧ EvP ns cs beg (outU ns liv beg us) (nxL xs) us.length 2 false (!sf) ∧ EvP ns cs beg (outU ns liv beg us) (nxL xs) us.length 1 true (!co) ∧ (lv = false ↔ ∃ i, i < us.length ∧ outU ns liv beg us i = 2)

set_option maxHeartbeats 8000000 in
set_option maxRecDepth 100000 in
theorem oclass_any (P : Nat) (ns : List Nd) (liv beg : Nat → Bool) (cs : List (Nat → Bool)) (w : World) (h8 : ns.length ≤ 8) (hfew : ∀ us xs, Expl ns liv beg us xs → us.length ≤ 796594185) (ho : OutM w P ns liv beg) (hcm : CalmM w P cs) (hcl : cs.length ≤ 8) :
    Calls Try.prog 74 #[.pointer (some ⟨P, 0, none⟩)] w fun e w' => ∃ sf co lv : Bool, e = .returned (.agg #[.bool sf, .bool co, .bool lv]) ∧ ClassP ns liv beg cs sf co lv ∧ Below w.heap.size w w' := by
  have hP := ho.lt
  have HO := hid ho
  have HC := hid hcm
  have HFEW := hid hfew
  clear ho hcm hfew
  go_enter Try.func74, Try.ntmps74
  go_wp2_with fail
  have ba := hid ((Below.refl w.heap.size w).alloc (Nat.le_refl _) (.cells #[.bool false, .bool false, .bool false] 56))
  refine (states_any P ns liv beg _ h8 HFEW.out (HO.out.below ba.out hP)).mono ?_
  unfold StatesMade
  rintro e w1 ⟨us, xs, SS, v, rfl, hE, hxl, hSl, hS, hown, hb1⟩
  simp only [World.size_alloc] at hown hb1
  have hup : 0 < us.length := (List.getElem?_eq_some_iff.1 hE.first).1
  have hfw := HFEW.out us xs hE
  obtain ⟨ao, cap, rfl⟩ := own_slice hown
  obtain ⟨g, rfl, hgB, hgs, _⟩ := own_at' hown hup
  have HR := hid (stR_of hS hSl hown)
  have HNX := hid (expl_nx hE hxl)
  have HE := hid (And.intro hE hxl)
  have cc0 : w1.cell? ⟨w.heap.size, 0, none⟩ = some (.bool false) := (hb1.cell (p := ⟨w.heap.size, 0, none⟩) (by show w.heap.size < w.heap.size + 1; omega)).trans (by simp)
  have cc1 : w1.cell? ⟨w.heap.size, 1, none⟩ = some (.bool false) := (hb1.cell (p := ⟨w.heap.size, 1, none⟩) (by show w.heap.size < w.heap.size + 1; omega)).trans (by simp)
  have cc2 : w1.cell? ⟨w.heap.size, 2, none⟩ = some (.bool false) := (hb1.cell (p := ⟨w.heap.size, 2, none⟩) (by show w.heap.size < w.heap.size + 1; omega)).trans (by simp)
  have ff : ∀ o, w1.frozen? ⟨w.heap.size, o, none⟩ = false := fun o => (hb1.frozen (p := ⟨w.heap.size, o, none⟩) (by show w.heap.size < w.heap.size + 1; omega)).trans (by simp)
  have hsz1 : w.heap.size < w1.heap.size := by have := hb1.size; simp at this; omega
  have HB1 := hid (ba.out.trans (hb1.mono (by omega)))
  have HCC := hid (And.intro cc0 (And.intro cc1 (And.intro cc2 ff)))
  clear hown hb1 ba hE hS cc0 cc1 cc2 ff
  generalize hnn : us.length = n at *
  have HNN := hid hnn
  clear hnn
  go_wp2_with fail
  refine (evades_any P g n cap 2 false ns liv beg cs _ _ w1 h8 hup (by omega) (HO.out.below HB1.out hP) (HC.out.below HB1.out hP) hcl HR.out HNX.out).mono ?_
  rintro e w2 ⟨b1, rfl, hv1, hb2⟩
  have HV1 := hid hv1
  have HR2 := hid (HR.out.below hb2 hgs)
  have HB2 := hid (HB1.out.trans (hb2.mono (by omega)))
  have hsz2 := hb2.size
  have HCC2 := hid (And.intro ((hb2.cell (p := ⟨w.heap.size, 0, none⟩) hsz1).trans HCC.out.1) (And.intro ((hb2.cell (p := ⟨w.heap.size, 1, none⟩) hsz1).trans HCC.out.2.1) (And.intro ((hb2.cell (p := ⟨w.heap.size, 2, none⟩) hsz1).trans HCC.out.2.2.1) (fun o => (hb2.frozen (p := ⟨w.heap.size, o, none⟩) hsz1).trans (HCC.out.2.2.2 o)))))
  clear hv1 hb2 HR HB1 HCC
  go_wp2_with fail
  refine (evades_any P g n cap 1 true ns liv beg cs _ _ w2 h8 hup (by omega) (HO.out.below HB2.out hP) (HC.out.below HB2.out hP) hcl HR2.out HNX.out).mono ?_
  rintro e w3 ⟨b2, rfl, hv2, hb3⟩
  have HV2 := hid hv2
  have HR3 := hid (HR2.out.below hb3 (by omega))
  have HB3 := hid (HB2.out.trans (hb3.mono (by omega)))
  have hsz3 := hb3.size
  have hl2 : w.heap.size < w2.heap.size := by omega
  have HCC3 := hid (And.intro ((hb3.cell (p := ⟨w.heap.size, 0, none⟩) hl2).trans HCC2.out.1) (And.intro ((hb3.cell (p := ⟨w.heap.size, 1, none⟩) hl2).trans HCC2.out.2.1) (And.intro ((hb3.cell (p := ⟨w.heap.size, 2, none⟩) hl2).trans HCC2.out.2.2.1) (fun o => (hb3.frozen (p := ⟨w.heap.size, o, none⟩) hl2).trans (HCC2.out.2.2.2 o)))))
  clear hv2 hb3 HR2 HB2 HCC2
  go_wp2_with fail
  refine (tells_any g n cap 2 _ _ w3 (by omega) HR3.out).mono ?_
  rintro e w4 ⟨b3, rfl, hv3, hb4⟩
  have HV3 := hid hv3
  have HB4 := hid (HB3.out.trans (hb4.mono (by omega)))
  have hl3 : w.heap.size < w3.heap.size := by omega
  have d0 := (hb4.cell (p := ⟨w.heap.size, 0, none⟩) hl3).trans HCC3.out.1
  have d1 := (hb4.cell (p := ⟨w.heap.size, 1, none⟩) hl3).trans HCC3.out.2.1
  have d2 := (hb4.cell (p := ⟨w.heap.size, 2, none⟩) hl3).trans HCC3.out.2.2.1
  have e0 := (hb4.frozen (p := ⟨w.heap.size, 0, none⟩) hl3).trans (HCC3.out.2.2.2 0)
  have e1 := (hb4.frozen (p := ⟨w.heap.size, 1, none⟩) hl3).trans (HCC3.out.2.2.2 1)
  have e2 := (hb4.frozen (p := ⟨w.heap.size, 2, none⟩) hl3).trans (HCC3.out.2.2.2 2)
  clear hv3 hb4 HR3 HB3 HCC3
  go_wp2_with fail
  refine ret_cells (cs := [.bool !b1, .bool !b2, .bool !b3]) (b := w.heap.size) Try.results74 ?_ ?_ ?_ Try.underlying56 rfl Try.classSize ?_
  · rfl
  · rfl
  · exact three_set d0 d1 d2 _ _ _
  · refine ⟨!b1, !b2, !b3, rfl, ⟨us, xs, HE.out.1, by rw [HNN.out]; exact HE.out.2, by rw [HNN.out, Bool.not_not]; exact HV1.out, by rw [HNN.out, Bool.not_not]; exact HV2.out, by rw [HNN.out, ← HV3.out]; simp⟩, ?_⟩
    exact ((HB4.out.setCell (p := ⟨w.heap.size, 0, none⟩) (Nat.le_refl _) _).setCell (p := ⟨w.heap.size, 1, none⟩) (Nat.le_refl _) _).setCell (p := ⟨w.heap.size, 2, none⟩) (Nat.le_refl _) _

end Go.Proofs.Ytjagijohfkffiaa
