import Derived.Test.YtjagijohfkffiabCHEM39
import Derived.Test.YtjagijohfkffiabCHEM41
import Derived.Deep.RegionHeld3
import Derived.Deep.AppendLies

/- The walk of the reference's turned (laid by gen_turned.py). -/
namespace Go.Proofs.Ytjagijohfkffiab
open Go.RowKit
set_option linter.unusedVariables false

theorem own_stays {a B : Nat} {e : TypeId} {s : Nat} {v : Value} {n : Nat} {xs : List Value} {w w' : World} (h : w.ownsRow B e s v n xs) (hs : Stays a w w') (ha : a ≤ B) : w'.ownsRow B e s v n xs := by
  refine ⟨h.1, ?_⟩
  rcases h.2 with h0 | ⟨g, cap, cur, ev, hb, hg, r⟩
  · exact Or.inl h0
  · exact Or.inr ⟨g, cap, cur, ev, hb, (hs.block g (Nat.le_trans ha hb) (heap_lt hg)).trans hg, r⟩
theorem Stays.cell {a : Nat} {w w' : World} (hs : Stays a w w') {x o : Nat} (h1 : a ≤ x) (h2 : x < w.heap.size) : w'.cell? ⟨x, o, none⟩ = w.cell? ⟨x, o, none⟩ := by
  have := hs.block x h1 h2
  unfold World.cell?
  simp only [this]

set_option maxHeartbeats 8000000 in
set_option maxRecDepth 100000 in
theorem turned_net (P N K : Nat) (to : Nat → List Nat) (kp : Nat → Nat → Bool) (w : World) (hn : NetM w P N to K kp) (hN0 : 0 < N) (hto : ∀ a, a < N → ∀ b ∈ to a, b < N) (hlen : ∀ a, a < N → (to a).length ≤ 4398046511104) (hcnt : ∀ a, a < N → ∀ j, (to a).count j ≤ 8) (hN : N ≤ 274877906944) :
    Calls Try.prog 96 #[.pointer (some ⟨P, 0, none⟩)] w fun e w' => ∃ P2 tl, e = .returned (.pointer (some ⟨P2, 0, none⟩)) ∧ (∀ w2, Stays w.heap.size w' w2 → NetM w2 P2 N tl 0 kp) ∧ (∀ j a, a ∈ tl j ↔ a < N ∧ j ∈ to a) ∧ (∀ j, (tl j).length ≤ 8 * N) ∧ Below w.heap.size w w' := by
  obtain ⟨v0, c0, ao, cap, rfl, hcap, hrow⟩ := hn.c0
  obtain ⟨g, rfl, hg, hcell⟩ := hrow (by omega)
  have hP := hn.lt
  have HC := hid hcell
  obtain ⟨i0, hi, hz0, hz1, hz2⟩ := info_parts Try.infoIntL
  obtain ⟨i1, hi1, hz01, hz11, hz21⟩ := info_parts Try.infoIntE
  have HTO := hid hto
  have HLE := hid hlen
  have HCN := hid hcnt
  clear hcell hrow hn hto hlen hcnt
  go_enter Try.func96, Try.ntmps96
  go_wp2_with (at_make; go_must (refine wpList_make_full _ rfl (.tmp 10) (.tmp 10) 33 rfl w.heap.size 22 i0 (.slice none 0 0) 1 Try.underlying33 hi hz0 hz1 .i64 .i64 N N N rfl rfl rfl rfl ?m2 ?m3 (Nat.le_refl _) ?_))
  case m2 => rw [hz2]; omega
  case m3 => unfold maxLen; omega
  intro w1 own1 grow1
  have eo : (madeCells #[Value.slice none 0 0] N).toList = (List.range N).map (fun _ => Value.slice none 0 0) := by
    rw [toList_madeCells_one]
    apply List.ext_getElem
    · simp
    · intro i h1 h2; simp
  rw [eo] at own1
  have hb1 : Below w.heap.size w w1 := (Below.refl _ _).grown grow1 (Nat.le_refl _) (fun k h => by cases h)
  have hs1 : w.heap.size < w1.heap.size := (own1.lt _ rfl).2
  have T1 := hid (two_new w1 (.slice (some ⟨w.heap.size, 0, none⟩) N N) (.slice none 0 0) 102)
  have M1 : Hid (TnM (w1.alloc (.cells #[.slice (some ⟨w.heap.size, 0, none⟩) N N, .slice none 0 0] 102)) w.heap.size (w1.heap.size + 1) w.heap.size N (fun _ => .slice none 0 0) (fun _ => [])) :=
    hid ⟨own1.alloc _, fun j hj => World.ownsRow_nil _ _ _ _, fun i j _ _ _ => Or.inl rfl⟩
  have HB1 := hid (hb1.alloc hb1.size (.cells #[.slice (some ⟨w.heap.size, 0, none⟩) N N, .slice none 0 0] 102))
  clear own1 grow1 eo hb1
  go_wp2_with fail
  go_loopw [4] (fun i wr => ∃ (q : Nat) (V : Nat → Value) (tl : Nat → List Nat), q ≤ N ∧ i = .int .i64 q ∧ Hid (TnP to q 0 tl) ∧ Hid (TnM wr w.heap.size (w1.heap.size + 1) w.heap.size N V tl) ∧ Two wr w1.heap.size (.slice (some ⟨w.heap.size, 0, none⟩) N N) (.slice none 0 0) ∧ Below w.heap.size w wr) (fun i _ => N - (intOf i).toNat)
  case atStart => exact ⟨0, _, _, Nat.zero_le _, rfl, hid (tn_start to), M1, T1.out, HB1.out⟩
  case round =>
    obtain ⟨q, V, tl, hq, rfl, HP, HM, t2, hb⟩ := hrel
    rename World => W0
    have c0' := (hb.cell (p := ⟨P, 0, none⟩) hP).trans c0
    by_cases hlt : q < N
    · obtain ⟨r, cr, hnr⟩ := HC.out q hlt
      obtain ⟨aor, rcap, rfl, hrc, hrr⟩ := hnr
      have HRR := hid hrr
      have HCR := hid cr
      have hll := HLE.out q hlt
      have HTQ := hid (HTO.out q hlt)
      have HT2 := hid t2
      generalize hlnE : (to q).length = ln at *
      have HLN := hid hlnE
      clear hrr hlnE t2 cr
      go_wp2_with fail
      go_loopw [5] (fun i wr => ∃ (k : Nat) (V : Nat → Value) (tl : Nat → List Nat), k ≤ ln ∧ i = .int .i64 k ∧ Hid (TnP to q k tl) ∧ Hid (TnM wr w.heap.size (w1.heap.size + 1) w.heap.size N V tl) ∧ Two wr w1.heap.size (.slice (some ⟨w.heap.size, 0, none⟩) N N) (.slice none 0 0) ∧ Below w.heap.size w wr) (fun i _ => ln - (intOf i).toNat)
      case atStart => exact ⟨0, V, tl, Nat.zero_le _, rfl, HP, HM, HT2.out, hb⟩
      case round =>
        obtain ⟨k, V, tl, hk, rfl, HP3, HM3, t3, hb3⟩ := hrel
        have c3 := (hb3.cell (p := ⟨P, 0, none⟩) hP).trans c0
        have cr3 := (hb3.cell (p := ⟨g, q, none⟩) hg).trans HCR.out
        have hsz := hb3.size
        by_cases hlk : k < ln
        · obtain ⟨gr, e, hgr, crr⟩ := HRR.out (by omega)
          subst e
          have cb := (hb3.cell (p := ⟨gr, k, none⟩) hgr).trans (crr k hlk)
          have hbN : atN (to q) k < N := HTQ.out _ (atN_mem (by rw [HLN.out]; exact hlk))
          have HST := hid (tn_step HP3.out (k := k) (by rw [HLN.out]; exact hlk))
          generalize atN (to q) k = b at *
          have cv : wr.cell? ⟨w.heap.size, b, none⟩ = some (V b) := by
            rw [HM3.out.out.cellAt b (by omega)]
            simp [List.getElem?_map, List.getElem?_range hbN]
          have own := HM3.out.row b hbN
          have hle8 := HP3.out.len b
          have p2 := t3.c0
          have hPP := t3.lt
          have hcl : (tl b).length ≤ 1099511627776 * 4 := by
            have h1 := (List.take_sublist k (to q)).count_le b
            have h2 := HCN.out q hlt b
            omega
          have wri : IntKind.i64.wrap (q : Int) = (q : Int) := by rw [IntKind.wrap_i64]; omega
          have nb : ∀ x, x < w1.heap.size + 1 → some x ≠ (V b).ownBlock := fun x hx e => by
            have := (own.lt x e.symm).1
            omega
          have cf : wr.frozen? ⟨w.heap.size, b, none⟩ = false := HM3.out.out.frozenAt b
          have z1 : (0 : Int) ≤ (q : Int) := Int.natCast_nonneg _
          have z2 : (q : Int) < (N : Int) := by omega
          have z3 : (0 : Int) ≤ (k : Int) := Int.natCast_nonneg _
          have z4 : (k : Int) < (ln : Int) := by omega
          have z5 : (0 : Int) ≤ (b : Int) := Int.natCast_nonneg _
          have z6 : (b : Int) < (N : Int) := by omega
          have y1 : w.heap.size < w1.heap.size + 1 := by omega
          have y0 : w.heap.size < wr.heap.size := by omega
          have y2 : P < w1.heap.size + 1 := by omega
          have y3 : g < w1.heap.size + 1 := by omega
          have y4 : gr < w1.heap.size + 1 := by omega
          clear crr
          go_wp2_with fail
          have yP : P < wr.heap.size := by omega
          have yg : g < wr.heap.size := by omega
          have ygr : gr < wr.heap.size := by omega
          refine wp_region_held_drew (S := fun w' => w'.cell? ⟨w1.heap.size, 0, none⟩ = some (.slice (some ⟨w.heap.size, 0, none⟩) N N) ∧ w'.cell? ⟨P, 0, none⟩ = some (.slice (some ⟨g, 0, none⟩) N cap) ∧ w'.cell? ⟨g, q, none⟩ = some (.slice (some ⟨gr, 0, none⟩) ln rcap) ∧ w'.cell? ⟨gr, k, none⟩ = some (.int .i64 b)) (by kernel_rfl) ⟨p2, c3, cr3, cb⟩ (fun hHeld => ?_)
          refine wpAnyH_take (i := 0) (oi := { dst := some 35, op := Op.move (.tmp 3), type := _, pos := _, after := _, guard := none }) (v := (Value.pointer (some ⟨w1.heap.size, 0, none⟩))) rfl (by kernel_rfl) (by kernel_rfl) (by kernel_rfl) (fun _ _ _ h => h) (Or.inl ⟨by rfl, by intro w' hSw; (try dsimp only at hSw); go_simp⟩) (by assumption) ?_
          simp only [Act.put, List.setIfInBounds_toArray, List.set_cons_zero, List.set_cons_succ]
          refine wpAnyH_take (i := 1) (oi := { dst := some 36, op := Op.nilCheck (.tmp 35), type := _, pos := _, after := _, guard := none }) (v := (Value.pointer (some ⟨w1.heap.size, 0, none⟩))) rfl (by kernel_rfl) (by kernel_rfl) (by kernel_rfl) (fun _ _ _ h => h) (Or.inl ⟨by rfl, by intro w' hSw; (try dsimp only at hSw); go_simp⟩) (by assumption) ?_
          simp only [Act.put, List.setIfInBounds_toArray, List.set_cons_zero, List.set_cons_succ]
          refine wpAnyH_take (i := 2) (oi := { dst := some 37, op := Op.fieldAddr _ (.tmp 36) 0, type := _, pos := _, after := _, guard := none }) (v := (Value.pointer (some ⟨w1.heap.size, 0, none⟩))) rfl (by kernel_rfl) (by kernel_rfl) (by kernel_rfl) (fun _ _ _ h => h) (Or.inl ⟨by rfl, by intro w' hSw; (try dsimp only at hSw); go_simp⟩) (by assumption) ?_
          simp only [Act.put, List.setIfInBounds_toArray, List.set_cons_zero, List.set_cons_succ]
          refine wpAnyH_take (i := 3) (oi := { dst := some 38, op := Op.load _ (.tmp 37), type := _, pos := _, after := _, guard := none }) (v := (Value.slice (some ⟨w.heap.size, 0, none⟩) N N)) rfl (by kernel_rfl) (by kernel_rfl) (by kernel_rfl) (fun _ _ _ h => h) (Or.inl ⟨by rfl, by intro w' hSw; (try dsimp only at hSw); go_simp⟩) (by assumption) ?_
          simp only [Act.put, List.setIfInBounds_toArray, List.set_cons_zero, List.set_cons_succ]
          refine wpAnyH_take (i := 4) (oi := { dst := some 39, op := Op.move (.tmp 0), type := _, pos := _, after := _, guard := none }) (v := (Value.pointer (some ⟨P, 0, none⟩))) rfl (by kernel_rfl) (by kernel_rfl) (by kernel_rfl) (fun _ _ _ h => h) (Or.inl ⟨by rfl, by intro w' hSw; (try dsimp only at hSw); go_simp⟩) (by assumption) ?_
          simp only [Act.put, List.setIfInBounds_toArray, List.set_cons_zero, List.set_cons_succ]
          refine wpAnyH_take (i := 5) (oi := { dst := some 40, op := Op.nilCheck (.tmp 39), type := _, pos := _, after := _, guard := none }) (v := (Value.pointer (some ⟨P, 0, none⟩))) rfl (by kernel_rfl) (by kernel_rfl) (by kernel_rfl) (fun _ _ _ h => h) (Or.inl ⟨by rfl, by intro w' hSw; (try dsimp only at hSw); go_simp⟩) (by assumption) ?_
          simp only [Act.put, List.setIfInBounds_toArray, List.set_cons_zero, List.set_cons_succ]
          refine wpAnyH_take (i := 6) (oi := { dst := some 41, op := Op.fieldAddr _ (.tmp 40) 0, type := _, pos := _, after := _, guard := none }) (v := (Value.pointer (some ⟨P, 0, none⟩))) rfl (by kernel_rfl) (by kernel_rfl) (by kernel_rfl) (fun _ _ _ h => h) (Or.inl ⟨by rfl, by intro w' hSw; (try dsimp only at hSw); go_simp⟩) (by assumption) ?_
          simp only [Act.put, List.setIfInBounds_toArray, List.set_cons_zero, List.set_cons_succ]
          refine wpAnyH_take (i := 7) (oi := { dst := some 42, op := Op.load _ (.tmp 41), type := _, pos := _, after := _, guard := none }) (v := (Value.slice (some ⟨g, 0, none⟩) N cap)) rfl (by kernel_rfl) (by kernel_rfl) (by kernel_rfl) (fun _ _ _ h => h) (Or.inl ⟨by rfl, by intro w' hSw; (try dsimp only at hSw); go_simp⟩) (by assumption) ?_
          simp only [Act.put, List.setIfInBounds_toArray, List.set_cons_zero, List.set_cons_succ]
          refine wpAnyH_take (i := 8) (oi := { dst := some 43, op := Op.move (.tmp 4), type := _, pos := _, after := _, guard := none }) (v := (Value.int .i64 (q : Nat))) rfl (by kernel_rfl) (by kernel_rfl) (by kernel_rfl) (fun _ _ _ h => h) (Or.inl ⟨by rfl, by intro w' hSw; (try dsimp only at hSw); go_simp⟩) (by assumption) ?_
          simp only [Act.put, List.setIfInBounds_toArray, List.set_cons_zero, List.set_cons_succ]
          refine wpAnyH_take (i := 9) (oi := { dst := some 44, op := Op.indexAddr _ (.tmp 42) (.tmp 43), type := _, pos := _, after := _, guard := none }) (v := (Value.pointer (some ⟨g, q, none⟩))) rfl (by kernel_rfl) (by kernel_rfl) (by kernel_rfl) (fun _ _ _ h => h) (Or.inl ⟨by rfl, by intro w' hSw; (try dsimp only at hSw); go_simp⟩) (by assumption) ?_
          simp only [Act.put, List.setIfInBounds_toArray, List.set_cons_zero, List.set_cons_succ]
          refine wpAnyH_take (i := 10) (oi := { dst := some 45, op := Op.load _ (.tmp 44), type := _, pos := _, after := _, guard := none }) (v := (Value.slice (some ⟨gr, 0, none⟩) ln rcap)) rfl (by kernel_rfl) (by kernel_rfl) (by kernel_rfl) (fun _ _ _ h => h) (Or.inl ⟨by rfl, by intro w' hSw; (try dsimp only at hSw); go_simp⟩) (by assumption) ?_
          simp only [Act.put, List.setIfInBounds_toArray, List.set_cons_zero, List.set_cons_succ]
          refine wpAnyH_take (i := 11) (oi := { dst := some 46, op := Op.move (.tmp 5), type := _, pos := _, after := _, guard := none }) (v := (Value.int .i64 (k : Nat))) rfl (by kernel_rfl) (by kernel_rfl) (by kernel_rfl) (fun _ _ _ h => h) (Or.inl ⟨by rfl, by intro w' hSw; (try dsimp only at hSw); go_simp⟩) (by assumption) ?_
          simp only [Act.put, List.setIfInBounds_toArray, List.set_cons_zero, List.set_cons_succ]
          refine wpAnyH_take (i := 12) (oi := { dst := some 47, op := Op.indexAddr _ (.tmp 45) (.tmp 46), type := _, pos := _, after := _, guard := none }) (v := (Value.pointer (some ⟨gr, k, none⟩))) rfl (by kernel_rfl) (by kernel_rfl) (by kernel_rfl) (fun _ _ _ h => h) (Or.inl ⟨by rfl, by intro w' hSw; (try dsimp only at hSw); go_simp⟩) (by assumption) ?_
          simp only [Act.put, List.setIfInBounds_toArray, List.set_cons_zero, List.set_cons_succ]
          refine wpAnyH_take (i := 13) (oi := { dst := some 48, op := Op.load _ (.tmp 47), type := _, pos := _, after := _, guard := none }) (v := (Value.int .i64 (b : Nat))) rfl (by kernel_rfl) (by kernel_rfl) (by kernel_rfl) (fun _ _ _ h => h) (Or.inl ⟨by rfl, by intro w' hSw; (try dsimp only at hSw); go_simp⟩) (by assumption) ?_
          simp only [Act.put, List.setIfInBounds_toArray, List.set_cons_zero, List.set_cons_succ]
          refine wpAnyH_take (i := 14) (oi := { dst := some 49, op := Op.move (.tmp 3), type := _, pos := _, after := _, guard := none }) (v := (Value.pointer (some ⟨w1.heap.size, 0, none⟩))) rfl (by kernel_rfl) (by kernel_rfl) (by kernel_rfl) (fun _ _ _ h => h) (Or.inl ⟨by rfl, by intro w' hSw; (try dsimp only at hSw); go_simp⟩) (by assumption) ?_
          simp only [Act.put, List.setIfInBounds_toArray, List.set_cons_zero, List.set_cons_succ]
          refine wpAnyH_take (i := 15) (oi := { dst := some 50, op := Op.nilCheck (.tmp 49), type := _, pos := _, after := _, guard := none }) (v := (Value.pointer (some ⟨w1.heap.size, 0, none⟩))) rfl (by kernel_rfl) (by kernel_rfl) (by kernel_rfl) (fun _ _ _ h => h) (Or.inl ⟨by rfl, by intro w' hSw; (try dsimp only at hSw); go_simp⟩) (by assumption) ?_
          simp only [Act.put, List.setIfInBounds_toArray, List.set_cons_zero, List.set_cons_succ]
          refine wpAnyH_take (i := 16) (oi := { dst := some 51, op := Op.fieldAddr _ (.tmp 50) 0, type := _, pos := _, after := _, guard := none }) (v := (Value.pointer (some ⟨w1.heap.size, 0, none⟩))) rfl (by kernel_rfl) (by kernel_rfl) (by kernel_rfl) (fun _ _ _ h => h) (Or.inl ⟨by rfl, by intro w' hSw; (try dsimp only at hSw); go_simp⟩) (by assumption) ?_
          simp only [Act.put, List.setIfInBounds_toArray, List.set_cons_zero, List.set_cons_succ]
          refine wpAnyH_take (i := 17) (oi := { dst := some 52, op := Op.load _ (.tmp 51), type := _, pos := _, after := _, guard := none }) (v := (Value.slice (some ⟨w.heap.size, 0, none⟩) N N)) rfl (by kernel_rfl) (by kernel_rfl) (by kernel_rfl) (fun _ _ _ h => h) (Or.inl ⟨by rfl, by intro w' hSw; (try dsimp only at hSw); go_simp⟩) (by assumption) ?_
          simp only [Act.put, List.setIfInBounds_toArray, List.set_cons_zero, List.set_cons_succ]
          refine wpAnyH_take (i := 18) (oi := { dst := some 53, op := Op.move (.tmp 0), type := _, pos := _, after := _, guard := none }) (v := (Value.pointer (some ⟨P, 0, none⟩))) rfl (by kernel_rfl) (by kernel_rfl) (by kernel_rfl) (fun _ _ _ h => h) (Or.inl ⟨by rfl, by intro w' hSw; (try dsimp only at hSw); go_simp⟩) (by assumption) ?_
          simp only [Act.put, List.setIfInBounds_toArray, List.set_cons_zero, List.set_cons_succ]
          refine wpAnyH_take (i := 19) (oi := { dst := some 54, op := Op.nilCheck (.tmp 53), type := _, pos := _, after := _, guard := none }) (v := (Value.pointer (some ⟨P, 0, none⟩))) rfl (by kernel_rfl) (by kernel_rfl) (by kernel_rfl) (fun _ _ _ h => h) (Or.inl ⟨by rfl, by intro w' hSw; (try dsimp only at hSw); go_simp⟩) (by assumption) ?_
          simp only [Act.put, List.setIfInBounds_toArray, List.set_cons_zero, List.set_cons_succ]
          refine wpAnyH_take (i := 20) (oi := { dst := some 55, op := Op.fieldAddr _ (.tmp 54) 0, type := _, pos := _, after := _, guard := none }) (v := (Value.pointer (some ⟨P, 0, none⟩))) rfl (by kernel_rfl) (by kernel_rfl) (by kernel_rfl) (fun _ _ _ h => h) (Or.inl ⟨by rfl, by intro w' hSw; (try dsimp only at hSw); go_simp⟩) (by assumption) ?_
          simp only [Act.put, List.setIfInBounds_toArray, List.set_cons_zero, List.set_cons_succ]
          refine wpAnyH_take (i := 21) (oi := { dst := some 56, op := Op.load _ (.tmp 55), type := _, pos := _, after := _, guard := none }) (v := (Value.slice (some ⟨g, 0, none⟩) N cap)) rfl (by kernel_rfl) (by kernel_rfl) (by kernel_rfl) (fun _ _ _ h => h) (Or.inl ⟨by rfl, by intro w' hSw; (try dsimp only at hSw); go_simp⟩) (by assumption) ?_
          simp only [Act.put, List.setIfInBounds_toArray, List.set_cons_zero, List.set_cons_succ]
          refine wpAnyH_take (i := 22) (oi := { dst := some 57, op := Op.move (.tmp 4), type := _, pos := _, after := _, guard := none }) (v := (Value.int .i64 (q : Nat))) rfl (by kernel_rfl) (by kernel_rfl) (by kernel_rfl) (fun _ _ _ h => h) (Or.inl ⟨by rfl, by intro w' hSw; (try dsimp only at hSw); go_simp⟩) (by assumption) ?_
          simp only [Act.put, List.setIfInBounds_toArray, List.set_cons_zero, List.set_cons_succ]
          refine wpAnyH_take (i := 23) (oi := { dst := some 58, op := Op.indexAddr _ (.tmp 56) (.tmp 57), type := _, pos := _, after := _, guard := none }) (v := (Value.pointer (some ⟨g, q, none⟩))) rfl (by kernel_rfl) (by kernel_rfl) (by kernel_rfl) (fun _ _ _ h => h) (Or.inl ⟨by rfl, by intro w' hSw; (try dsimp only at hSw); go_simp⟩) (by assumption) ?_
          simp only [Act.put, List.setIfInBounds_toArray, List.set_cons_zero, List.set_cons_succ]
          refine wpAnyH_take (i := 24) (oi := { dst := some 59, op := Op.load _ (.tmp 58), type := _, pos := _, after := _, guard := none }) (v := (Value.slice (some ⟨gr, 0, none⟩) ln rcap)) rfl (by kernel_rfl) (by kernel_rfl) (by kernel_rfl) (fun _ _ _ h => h) (Or.inl ⟨by rfl, by intro w' hSw; (try dsimp only at hSw); go_simp⟩) (by assumption) ?_
          simp only [Act.put, List.setIfInBounds_toArray, List.set_cons_zero, List.set_cons_succ]
          refine wpAnyH_take (i := 25) (oi := { dst := some 60, op := Op.move (.tmp 5), type := _, pos := _, after := _, guard := none }) (v := (Value.int .i64 (k : Nat))) rfl (by kernel_rfl) (by kernel_rfl) (by kernel_rfl) (fun _ _ _ h => h) (Or.inl ⟨by rfl, by intro w' hSw; (try dsimp only at hSw); go_simp⟩) (by assumption) ?_
          simp only [Act.put, List.setIfInBounds_toArray, List.set_cons_zero, List.set_cons_succ]
          refine wpAnyH_take (i := 26) (oi := { dst := some 61, op := Op.indexAddr _ (.tmp 59) (.tmp 60), type := _, pos := _, after := _, guard := none }) (v := (Value.pointer (some ⟨gr, k, none⟩))) rfl (by kernel_rfl) (by kernel_rfl) (by kernel_rfl) (fun _ _ _ h => h) (Or.inl ⟨by rfl, by intro w' hSw; (try dsimp only at hSw); go_simp⟩) (by assumption) ?_
          simp only [Act.put, List.setIfInBounds_toArray, List.set_cons_zero, List.set_cons_succ]
          refine wpAnyH_take (i := 27) (oi := { dst := some 62, op := Op.load _ (.tmp 61), type := _, pos := _, after := _, guard := none }) (v := (Value.int .i64 (b : Nat))) rfl (by kernel_rfl) (by kernel_rfl) (by kernel_rfl) (fun _ _ _ h => h) (Or.inl ⟨by rfl, by intro w' hSw; (try dsimp only at hSw); go_simp⟩) (by assumption) ?_
          simp only [Act.put, List.setIfInBounds_toArray, List.set_cons_zero, List.set_cons_succ]
          refine wpAnyH_take (i := 28) (oi := { dst := some 63, op := Op.indexAddr _ (.tmp 52) (.tmp 62), type := _, pos := _, after := _, guard := none }) (v := (Value.pointer (some ⟨w.heap.size, b, none⟩))) rfl (by kernel_rfl) (by kernel_rfl) (by kernel_rfl) (fun _ _ _ h => h) (Or.inl ⟨by rfl, by intro w' hSw; (try dsimp only at hSw); go_simp⟩) (by assumption) ?_
          simp only [Act.put, List.setIfInBounds_toArray, List.set_cons_zero, List.set_cons_succ]
          refine wpAnyH_take (i := 30) (oi := { dst := some 65, op := Op.move (.tmp 4), type := _, pos := _, after := _, guard := none }) (v := (Value.int .i64 (q : Nat))) rfl (by kernel_rfl) (by kernel_rfl) (by kernel_rfl) (fun _ _ _ h => h) (Or.inl ⟨by rfl, by intro w' hSw; (try dsimp only at hSw); go_simp⟩) (by assumption) ?_
          simp only [Act.put, List.setIfInBounds_toArray, List.set_cons_zero, List.set_cons_succ]
          refine wpAnyH_ready (rs := [29, 31]) (by kernel_rfl) (by simp) ?_
          refine AllReadyH.cons rfl (fun K hK => ?_) (AllReadyH.cons rfl (fun K hK => ?_) AllReadyH.nil)
          · go_simp
            refine hK.out _ _ (by assumption) (fun hHeld => ?_)
            clear hK K
            refine wpAnyH_ready (rs := [31]) (by kernel_rfl) (by simp) ?_
            refine AllReadyH.cons rfl (fun K hK => ?_) AllReadyH.nil
            go_simp
            refine hK.out _ _ ?hs (fun hHeld => ?_)
            case hs => first | go_keep | (go_split_ands; refine ⟨?_, ?_, ?_, ?_⟩ <;> simp [*])
            clear hK K
            refine wpAnyH_ready (rs := [32]) (by kernel_rfl) (by simp) ?_
            refine AllReadyH.cons rfl (fun K hK => ?_) AllReadyH.nil
            refine step_append_lies _ (by rfl) (.tmp 64) (.tmp 66) 22 (by rfl) (w1.heap.size + 1) 3 i1 (.int .i64 0) 1 8 Try.underlying22 hi1 hz01 hz11 hz21 rfl (by decide) (V b) (tl b).length (nInts (tl b)) (by rfl) ((own.alloc _).drew) ⟨wr.heap.size, 0, none⟩ 1 1 [.int .i64 q] (by rfl) (by rfl) (World.news_of_block (cs := #[.int .i64 q]) (t := 3) (fr := (0, 0)) (heap_alloc_new wr _)) (by simp [Value.oneCell']) (by decide) (by unfold maxLen; omega) (by omega) (by simp; omega) (wr.heap.size + 1) (by simp) ?_
            intro gg cc w2 hown hgrow hat hlt2
            have HMA : TnM (wr.alloc (.cells #[.int .i64 (q : Int)] 3)).drew w.heap.size (w1.heap.size + 1) w.heap.size N V tl := HM3.out.keeps (below_drewN ((Below.refl wr.heap.size wr).alloc (Nat.le_refl _) (.cells #[.int .i64 (q : Int)] 3)) 1)
            have O2 := HMA.out.kept hgrow (own_ne' HMA.out (HMA.row b hbN) (by decide))
            have d1 := O2.frozenAt b
            have d0 : w2.cell? ⟨w.heap.size, b, none⟩ = some (V b) := (O2.cellAt b (by omega)).trans (by simp [List.getElem?_map, List.getElem?_range hbN])
            have bw2 : Below (w1.heap.size + 1) wr w2 := (below_drewN ((Below.refl (w1.heap.size + 1) wr).alloc (by omega) (.cells #[.int .i64 (q : Int)] 3)) 1).grown hgrow (by show w1.heap.size + 1 ≤ (wr.alloc (.cells #[.int .i64 (q : Int)] 3)).heap.size; rw [World.size_alloc]; omega) (fun x h => (own.lt x h).1)
            have TM := hid (tnm_push HMA hbN (a := q) hgrow hown (by rcases hat with h | h; exact Or.inl h; exact Or.inr (by rw [h]; exact (World.size_alloc ..).symm)))
            have s1 := t3.below bw2 (Nat.lt_succ_self _)
            have T5 := hid (s1.other (k := w.heap.size) (o := b) (by omega) (.slice (some ⟨gg, 0, none⟩) ((tl b).length + 1) cc))
            have BB := hid ((hb3.trans (bw2.mono (by omega))).setCell (p := ⟨w.heap.size, b, none⟩) (Nat.le_refl _) (.slice (some ⟨gg, 0, none⟩) ((tl b).length + 1) cc))
            have e1 := s1.c0
            have e2 := (bw2.cell (p := ⟨P, 0, none⟩) y2).trans c3
            have e3 := (bw2.cell (p := ⟨g, q, none⟩) y3).trans cr3
            have e4 := (bw2.cell (p := ⟨gr, k, none⟩) y4).trans cb
            have KS : ∀ (x o : Nat) {u v : Value}, x ≠ w.heap.size → w2.cell? ⟨x, o, none⟩ = some v → (w2.setCell ⟨w.heap.size, b, none⟩ u).cell? ⟨x, o, none⟩ = some v := fun x o u v hx hv => by
              rw [World.cell?_setCell_other _ _ _ _ (fun e => hx (by have := congrArg Addr.block e; simpa using this.symm))]
              exact hv
            have HS5 := hid (⟨KS _ _ (by omega) e1, KS _ _ (by omega) e2, KS _ _ (by omega) e3, KS _ _ (by omega) e4⟩ : (fun w' : World => w'.cell? ⟨w1.heap.size, 0, none⟩ = some (.slice (some ⟨w.heap.size, 0, none⟩) N N) ∧ w'.cell? ⟨P, 0, none⟩ = some (.slice (some ⟨g, 0, none⟩) N cap) ∧ w'.cell? ⟨g, q, none⟩ = some (.slice (some ⟨gr, 0, none⟩) ln rcap) ∧ w'.cell? ⟨gr, k, none⟩ = some (.int .i64 b)) (w2.setCell ⟨w.heap.size, b, none⟩ (.slice (some ⟨gg, 0, none⟩) ((tl b).length + 1) cc)))
            refine hK.out _ _ ⟨e1, e2, e3, e4⟩ (fun hHeld => ?_)
            clear hK K O2 HMA bw2 hown hgrow hat s1 KS own
            simp only [Act.put, List.setIfInBounds_toArray]
            refine wpAnyH_take (i := 33) (oi := { dst := some 68, op := Op.indexAddr _ (.tmp 38) (.tmp 48), type := _, pos := _, after := _, guard := none }) (v := (Value.pointer (some ⟨w.heap.size, b, none⟩))) rfl (by kernel_rfl) (by kernel_rfl) (by kernel_rfl) (fun _ _ _ h => h) (Or.inl ⟨by rfl, by intro w' hSw; (try dsimp only at hSw); go_simp⟩) (by assumption) ?_
            simp only [Act.put]
            refine wpAnyH_ready (rs := [34]) (by kernel_rfl) (by simp) ?_
            refine AllReadyH.cons rfl (fun K hK => ?_) AllReadyH.nil
            go_simp
            refine hK.out _ _ HS5.out (fun hHeld => ?_)
            clear hK K
            refine wpAnyH_done (by kernel_rfl) ?_ _
            clear hHeld e1 e2 e3 e4 d0 d1
            go_wp2_with fail
            go_roundw
            case rel => exact ⟨k + 1, _, _, by omega, by go_num, HST, TM, T5.out, BB.out⟩
            case measure => simp [intOf]; omega
          · go_simp
            refine hK.out _ _ ?hs (fun hHeld => ?_)
            case hs => first | go_keep | (go_split_ands; refine ⟨?_, ?_, ?_, ?_⟩ <;> simp [*])
            clear hK K
            refine wpAnyH_ready (rs := [29]) (by kernel_rfl) (by simp) ?_
            refine AllReadyH.cons rfl (fun K hK => ?_) AllReadyH.nil
            go_simp
            refine hK.out _ _ (by assumption) (fun hHeld => ?_)
            clear hK K
            refine wpAnyH_ready (rs := [32]) (by kernel_rfl) (by simp) ?_
            refine AllReadyH.cons rfl (fun K hK => ?_) AllReadyH.nil
            refine step_append_lies _ (by rfl) (.tmp 64) (.tmp 66) 22 (by rfl) (w1.heap.size + 1) 3 i1 (.int .i64 0) 1 8 Try.underlying22 hi1 hz01 hz11 hz21 rfl (by decide) (V b) (tl b).length (nInts (tl b)) (by rfl) ((own.alloc _).drew) ⟨wr.heap.size, 0, none⟩ 1 1 [.int .i64 q] (by rfl) (by rfl) (World.news_of_block (cs := #[.int .i64 q]) (t := 3) (fr := (0, 0)) (heap_alloc_new wr _)) (by simp [Value.oneCell']) (by decide) (by unfold maxLen; omega) (by omega) (by simp; omega) (wr.heap.size + 1) (by simp) ?_
            intro gg cc w2 hown hgrow hat hlt2
            have HMA : TnM (wr.alloc (.cells #[.int .i64 (q : Int)] 3)).drew w.heap.size (w1.heap.size + 1) w.heap.size N V tl := HM3.out.keeps (below_drewN ((Below.refl wr.heap.size wr).alloc (Nat.le_refl _) (.cells #[.int .i64 (q : Int)] 3)) 1)
            have O2 := HMA.out.kept hgrow (own_ne' HMA.out (HMA.row b hbN) (by decide))
            have d1 := O2.frozenAt b
            have d0 : w2.cell? ⟨w.heap.size, b, none⟩ = some (V b) := (O2.cellAt b (by omega)).trans (by simp [List.getElem?_map, List.getElem?_range hbN])
            have bw2 : Below (w1.heap.size + 1) wr w2 := (below_drewN ((Below.refl (w1.heap.size + 1) wr).alloc (by omega) (.cells #[.int .i64 (q : Int)] 3)) 1).grown hgrow (by show w1.heap.size + 1 ≤ (wr.alloc (.cells #[.int .i64 (q : Int)] 3)).heap.size; rw [World.size_alloc]; omega) (fun x h => (own.lt x h).1)
            have TM := hid (tnm_push HMA hbN (a := q) hgrow hown (by rcases hat with h | h; exact Or.inl h; exact Or.inr (by rw [h]; exact (World.size_alloc ..).symm)))
            have s1 := t3.below bw2 (Nat.lt_succ_self _)
            have T5 := hid (s1.other (k := w.heap.size) (o := b) (by omega) (.slice (some ⟨gg, 0, none⟩) ((tl b).length + 1) cc))
            have BB := hid ((hb3.trans (bw2.mono (by omega))).setCell (p := ⟨w.heap.size, b, none⟩) (Nat.le_refl _) (.slice (some ⟨gg, 0, none⟩) ((tl b).length + 1) cc))
            have e1 := s1.c0
            have e2 := (bw2.cell (p := ⟨P, 0, none⟩) y2).trans c3
            have e3 := (bw2.cell (p := ⟨g, q, none⟩) y3).trans cr3
            have e4 := (bw2.cell (p := ⟨gr, k, none⟩) y4).trans cb
            have KS : ∀ (x o : Nat) {u v : Value}, x ≠ w.heap.size → w2.cell? ⟨x, o, none⟩ = some v → (w2.setCell ⟨w.heap.size, b, none⟩ u).cell? ⟨x, o, none⟩ = some v := fun x o u v hx hv => by
              rw [World.cell?_setCell_other _ _ _ _ (fun e => hx (by have := congrArg Addr.block e; simpa using this.symm))]
              exact hv
            have HS5 := hid (⟨KS _ _ (by omega) e1, KS _ _ (by omega) e2, KS _ _ (by omega) e3, KS _ _ (by omega) e4⟩ : (fun w' : World => w'.cell? ⟨w1.heap.size, 0, none⟩ = some (.slice (some ⟨w.heap.size, 0, none⟩) N N) ∧ w'.cell? ⟨P, 0, none⟩ = some (.slice (some ⟨g, 0, none⟩) N cap) ∧ w'.cell? ⟨g, q, none⟩ = some (.slice (some ⟨gr, 0, none⟩) ln rcap) ∧ w'.cell? ⟨gr, k, none⟩ = some (.int .i64 b)) (w2.setCell ⟨w.heap.size, b, none⟩ (.slice (some ⟨gg, 0, none⟩) ((tl b).length + 1) cc)))
            refine hK.out _ _ ⟨e1, e2, e3, e4⟩ (fun hHeld => ?_)
            clear hK K O2 HMA bw2 hown hgrow hat s1 KS own
            simp only [Act.put, List.setIfInBounds_toArray]
            refine wpAnyH_take (i := 33) (oi := { dst := some 68, op := Op.indexAddr _ (.tmp 38) (.tmp 48), type := _, pos := _, after := _, guard := none }) (v := (Value.pointer (some ⟨w.heap.size, b, none⟩))) rfl (by kernel_rfl) (by kernel_rfl) (by kernel_rfl) (fun _ _ _ h => h) (Or.inl ⟨by rfl, by intro w' hSw; (try dsimp only at hSw); go_simp⟩) (by assumption) ?_
            simp only [Act.put]
            refine wpAnyH_ready (rs := [34]) (by kernel_rfl) (by simp) ?_
            refine AllReadyH.cons rfl (fun K hK => ?_) AllReadyH.nil
            go_simp
            refine hK.out _ _ HS5.out (fun hHeld => ?_)
            clear hK K
            refine wpAnyH_done (by kernel_rfl) ?_ _
            clear hHeld e1 e2 e3 e4 d0 d1
            go_wp2_with fail
            go_roundw
            case rel => exact ⟨k + 1, _, _, by omega, by go_num, HST, TM, T5.out, BB.out⟩
            case measure => simp [intOf]; omega
        · obtain rfl : k = ln := by omega
          have HNX := hid (tn_next (by rw [HLN.out]; exact HP3.out) (HCN.out q hlt))
          go_wp2_with fail
          go_roundw
          case rel => exact ⟨q + 1, V, tl, by omega, by go_num, HNX, HM3, t3, hb3⟩
          case measure => simp [intOf]; omega
    · obtain rfl : q = N := by omega
      have hwg : w.heap.size ≤ w1.heap.size := by omega
      have NM : Hid (∀ w2, Stays w.heap.size W0 w2 → NetM w2 w1.heap.size q tl 0 kp) := hid (fun w2 hs => by
        have OU := own_stays HM.out.out hs (Nat.le_refl _)
        exact ⟨Nat.lt_of_lt_of_le t2.lt hs.size, ⟨_, (hs.cell hwg t2.lt).trans t2.c0, _, _, rfl, Nat.le_refl _, fun _ => ⟨w.heap.size, rfl, (OU.lt _ rfl).2, fun i hi => ⟨V i, by rw [OU.cellAt i (by omega)]; simp [List.getElem?_map, List.getElem?_range hi], own_nr (own_stays (HM.out.row i hi) hs (by omega))⟩⟩⟩, ⟨_, (hs.cell hwg t2.lt).trans t2.c1, none, 0, rfl, Nat.le_refl _, fun h => by omega⟩⟩)
      have HMM : Hid (∀ j a, a ∈ tl j ↔ a < q ∧ j ∈ to a) := hid (fun j a => by rw [HP.out.mem]; simp)
      have HLL : Hid (∀ j, (tl j).length ≤ 8 * q) := hid (fun j => by have := HP.out.len j; simpa using this)
      clear t2
      go_wp2_with fail
      go_ret
      exact ⟨w1.heap.size, tl, rfl, NM.out, HMM.out, HLL.out, hb⟩

theorem turned_c : TurnedC := fun P N K to kp w hn h0 hto hlen hcnt hN => turned_net P N K to kp w hn h0 hto hlen hcnt (by omega)

end Go.Proofs.Ytjagijohfkffiab
