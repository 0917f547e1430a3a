import Derived.Test.YtjagijohfkffiaaWM07
import Derived.Test.YtjagijohfkffiaaWM25
import Derived.Test.YtjagijohfkffiaaWM26
import Derived.Deep.AppendLies
import Derived.Deep.RegionHeld3
import Derived.Deep.MidRow
import Derived.Deep.WholeRow

/- The walk of the reference's at (laid by gen_fat.py). -/
namespace Go.Proofs.Ytjagijohfkffiaa
open Go.RowKit
set_option linter.unusedVariables false

theorem cells_put (w : World) (cs : List Value) (t : TypeId) : ∀ j u, cs[j]? = some u → (w.alloc (.cells cs.toArray t)).cell? ((⟨w.heap.size, 0, none⟩ : Addr).add j) = some u := fun j u hj => by
  rw [Addr.add_mid, cell_of_row (w.alloc (.cells cs.toArray t)) w.heap.size (0 + j) cs.toArray t (0, 0) (heap_alloc_last w _)]
  simpa using hj
theorem own_setx' {w : World} {B e s n : Nat} {v : Value} {xs : List Value} (h : w.ownsRow B e s v n xs) (p : Addr) (u : Value) (h2 : v.ownBlock ≠ some p.block) : (w.setCell p u).ownsRow B e s v n xs :=
  h.kept (row := some p.block) ⟨rfl, rfl, rfl, by rw [World.size_setCell]; exact Nat.le_refl _, fun q hq hne => Below.heap_setCell _ _ _ _ (fun e => hne (by rw [e]))⟩ (Or.inr h2)

/-- All blocks but T and two rows are as they were. -/
structure KB (w w' : World) (T : Nat) (r1 r2 : Option Nat) : Prop where
  os : w'.os = w.os
  tape : w'.tape = w.tape
  output : w'.output = w.output
  size : w.heap.size ≤ w'.heap.size
  block : ∀ k, k < w.heap.size → k ≠ T → some k ≠ r1 → some k ≠ r2 → w'.heap[k]? = w.heap[k]?
theorem KB.of_below {w w' : World} {T : Nat} {r1 r2 : Option Nat} (h : Below w.heap.size w w') : KB w w' T r1 r2 := ⟨h.os, h.tape, h.output, h.size, fun k hk _ _ _ => h.block k hk⟩
theorem KB.cell {w w' : World} {T : Nat} {r1 r2 : Option Nat} (h : KB w w' T r1 r2) {p : Addr} (hp : p.block < w.heap.size) (h1 : p.block ≠ T) (h2 : some p.block ≠ r1) (h3 : some p.block ≠ r2) : w'.cell? p = w.cell? p := World.cell?_of_block (h.block _ hp h1 h2 h3)
theorem KB.frozen {w w' : World} {T : Nat} {r1 r2 : Option Nat} (h : KB w w' T r1 r2) {p : Addr} (hp : p.block < w.heap.size) (h1 : p.block ≠ T) (h2 : some p.block ≠ r1) (h3 : some p.block ≠ r2) : w'.frozen? p = w.frozen? p := World.frozen?_of_block (h.block _ hp h1 h2 h3)
theorem own_kb {w w' : World} {T B e s n : Nat} {r1 r2 : Option Nat} {v : Value} {xs : List Value} (h : w.ownsRow B e s v n xs) (f : KB w w' T r1 r2) (h1 : v.ownBlock ≠ some T) (h2 : v.ownBlock = none ∨ v.ownBlock ≠ r1) (h3 : v.ownBlock = none ∨ v.ownBlock ≠ r2) : w'.ownsRow B e s v n xs := by
  refine ⟨h.1, ?_⟩
  rcases h.2 with h0 | ⟨g, cap, cur, ev, hb, hg, r⟩
  · exact Or.inl h0
  · subst ev
    refine Or.inr ⟨g, cap, cur, rfl, hb, ?_, r⟩
    rw [f.block g (heap_lt hg) (fun e => h1 (by rw [← e]; rfl)) (fun e => by
      rcases h2 with h2 | h2
      · simp [Value.ownBlock] at h2
      · exact h2 (by rw [← e]; rfl)) (fun e => by
      rcases h3 with h3 | h3
      · simp [Value.ownBlock] at h3
      · exact h3 (by rw [← e]; rfl))]
    exact hg
theorem below_kb {B0 : Nat} {a w w' : World} {T : Nat} {r1 r2 : Option Nat} (h : Below B0 a w) (f : KB w w' T r1 r2) (hB : B0 ≤ w.heap.size) (h1 : B0 ≤ T) (h2 : ∀ k, r1 = some k → B0 ≤ k) (h3 : ∀ k, r2 = some k → B0 ≤ k) : Below B0 a w' :=
  ⟨f.os.trans h.os, f.tape.trans h.tape, f.output.trans h.output, Nat.le_trans h.size f.size, fun k hk => (f.block k (by omega) (by omega) (fun e => by have := h2 k e.symm; omega) (fun e => by have := h3 k e.symm; omega)).trans (h.block k hk)⟩

def flatRP (rs : List (Nat × Nat)) (M : Nat) : List Value := rs.flatMap fun p => [.slice (some ⟨p.1, 0, none⟩) M M, .slice (some ⟨p.2, 0, none⟩) M M]
theorem flatRP_snoc (rs : List (Nat × Nat)) (M : Nat) (p : Nat × Nat) : flatRP (rs ++ [p]) M = flatRP rs M ++ [.slice (some ⟨p.1, 0, none⟩) M M, .slice (some ⟨p.2, 0, none⟩) M M] := by simp [flatRP]
theorem flatRP_get {rs : List (Nat × Nat)} {M i : Nat} {p : Nat × Nat} (h : rs[i]? = some p) : (flatRP rs M)[i * 2]? = some (.slice (some ⟨p.1, 0, none⟩) M M) ∧ (flatRP rs M)[i * 2 + 1]? = some (.slice (some ⟨p.2, 0, none⟩) M M) := by
  induction rs generalizing i with
  | nil => simp at h
  | cons q qs ih =>
    cases i with
    | zero => simp at h; subst h; simp [flatRP]
    | succ i =>
      have := ih (by simpa using h)
      rw [show flatRP (q :: qs) M = [.slice (some ⟨q.1, 0, none⟩) M M, .slice (some ⟨q.2, 0, none⟩) M M] ++ flatRP qs M by simp [flatRP]]
      rw [List.getElem?_append_right (by simp; omega), List.getElem?_append_right (by simp; omega)]
      simpa [show (i + 1) * 2 - 2 = i * 2 by omega, show (i + 1) * 2 + 1 - 2 = i * 2 + 1 by omega] using this

/-- The reference's states as they are met, in memory. -/
structure FuM (w : World) (B T M : Nat) (vS vO vN : Value) (rs : List (Nat × Nat)) (fs : List ((Nat → Bool) × (Nat → Bool))) (outs : List Nat) : Prop where
  t : Three w T vS vO vN
  tB : T < B
  len : fs.length = rs.length
  olen : outs.length = rs.length
  st : w.ownsRow B 156 2 vS rs.length (flatRP rs M)
  ou : w.ownsRow B 3 1 vO rs.length (nInts outs)
  row : ∀ (i : Nat) p q, rs[i]? = some p → fs[i]? = some q → w.ownsRow B 4 1 (.slice (some ⟨p.1, 0, none⟩) M M) M (outTo q.1 M M) ∧ w.ownsRow B 4 1 (.slice (some ⟨p.2, 0, none⟩) M M) M (outTo q.2 M M)
theorem FuM.below {w w' : World} {B T M : Nat} {vS vO vN : Value} {rs : List (Nat × Nat)} {fs : List ((Nat → Bool) × (Nat → Bool))} {outs : List Nat} (h : FuM w B T M vS vO vN rs fs outs) (hb : Below w.heap.size w w') : FuM w' B T M vS vO vN rs fs outs :=
  ⟨h.t.below hb h.t.lt, h.tB, h.len, h.olen, own_keeps h.st hb, own_keeps h.ou hb, fun i p q h1 h2 => ⟨own_keeps (h.row i p q h1 h2).1 hb, own_keeps (h.row i p q h1 h2).2 hb⟩⟩
theorem own_rb {w : World} {B g M : Nat} {f : Nat → Bool} (h : w.ownsRow B 4 1 (.slice (some ⟨g, 0, none⟩) M M) M (outTo f M M)) : Rb w g M f := ⟨(h.lt _ rfl).2, fun i hi => by rw [h.cellAt i (by omega)]; exact outTo_get _ _ _ hi⟩

theorem Try.infoRState : (Try.prog.info? 156).map (fun i => (i.zero, i.size, i.bytes)) = some (some (.agg #[.slice none 0 0, .slice none 0 0]), 2, 48) := by kernel_rfl

/-- What at does. -/
def Ated (w : World) (B T M : Nat) (vS vO vN : Value) (rs : List (Nat × Nat)) (fs : List ((Nat → Bool) × (Nat → Bool))) (outs : List Nat) (by_ bn : Nat) (f h : Nat → Bool) (e : Ending) (w' : World) : Prop :=
  ∃ j vS' vO' rs' fs' outs', e = .returned (.int .i64 (j : Nat)) ∧ FuM w' B T M vS' vO' vN rs' fs' outs' ∧ KB w w' T vS.ownBlock vO.ownBlock ∧
    (vO'.ownBlock = vO.ownBlock ∨ ∃ q, vO'.ownBlock = some q ∧ w.heap.size ≤ q) ∧
    ((rs' = rs ∧ fs' = fs ∧ outs' = outs ∧ ∃ p, fs[j]? = some p ∧ (∀ i, i < M → p.1 i = f i)) ∨
     (j = rs.length ∧ rs' = rs ++ [(by_, bn)] ∧ fs' = fs ++ [(f, h)] ∧ outs' = outs ++ [toldB (noneB f M) (noneB h M)] ∧ ∀ p ∈ fs, ¬ ((∀ i, i < M → p.1 i = f i) ∧ ∀ i, i < M → p.2 i = h i)))

set_option maxHeartbeats 8000000 in
set_option maxRecDepth 100000 in
theorem fat_any (w : World) (B T M : Nat) (vS vO vN : Value) (rs : List (Nat × Nat)) (fs : List ((Nat → Bool) × (Nat → Bool))) (outs : List Nat) (by_ bn : Nat) (f h : Nat → Bool) (hm : FuM w B T M vS vO vN rs fs outs) (hB : B ≤ w.heap.size) (hlen : rs.length ≤ 8589934592) (hM : M ≤ 1099511627776)
    (h1 : w.ownsRow B 4 1 (.slice (some ⟨by_, 0, none⟩) M M) M (outTo f M M)) (h2 : w.ownsRow B 4 1 (.slice (some ⟨bn, 0, none⟩) M M) M (outTo h M M)) :
    Calls Try.prog 96 #[.pointer (some ⟨T, 0, none⟩), .agg #[.slice (some ⟨by_, 0, none⟩) M M, .slice (some ⟨bn, 0, none⟩) M M]] w (Ated w B T M vS vO vN rs fs outs by_ bn f h) := by
  have hT := hm.t.lt
  have hTB := hm.tB
  have HM := hid hm
  have H1 := hid h1
  have H2 := hid h2
  obtain ⟨aoS, cpS, rfl⟩ := own_slice hm.st
  obtain ⟨aoO, cpO, rfl⟩ := own_slice hm.ou
  obtain ⟨i0, hi, hz0, hz1, hz2⟩ := info_parts Try.infoRState
  obtain ⟨i1, hi1, hz01, hz11, hz21⟩ := info_parts Try.infoIntE
  have HNS := hid (fun q (h : (Value.slice aoS rs.length cpS).ownBlock = some q) => hm.st.lt q h)
  have HNO := hid (fun q (h : (Value.slice aoO rs.length cpO).ownBlock = some q) => hm.ou.lt q h)
  clear hm h1 h2
  generalize hnE : rs.length = n at *
  have HNE := hid hnE
  clear hnE
  have ba := hid ((Below.refl w.heap.size w).alloc (Nat.le_refl _) (.cells #[.slice (some ⟨by_, 0, none⟩) M M, .slice (some ⟨bn, 0, none⟩) M M] 156))
  go_enter Try.func96, Try.ntmps96
  go_wp2_with fail
  go_loopw [5] (fun i wq => ∃ k : Nat, k ≤ n ∧ i = .int .i64 k ∧ Hid (∀ i p, i < k → fs[i]? = some p → ¬ ((∀ i, i < M → p.1 i = f i) ∧ ∀ i, i < M → p.2 i = h i)) ∧ Hid (Two wq w.heap.size (.slice (some ⟨by_, 0, none⟩) M M) (.slice (some ⟨bn, 0, none⟩) M M)) ∧ w.heap.size < wq.heap.size ∧ Hid (Below w.heap.size w wq)) (fun i _ => n - (intOf i).toNat)
  case atStart => exact ⟨0, Nat.zero_le _, rfl, hid (fun i p h => by omega), hid (two_new _ _ _ _), by simp, ba⟩
  case round =>
    obtain ⟨k, hk, rfl, HA, HX, hsz, HB⟩ := hrel
    rename World => W0
    clear ba
    have HM0 := hid (HM.out.below HB.out)
    have cT := HM0.out.t.c0
    have x0 := HX.out.c0
    have x1 := HX.out.c1
    by_cases hlk : k < n
    · obtain ⟨p, hp⟩ : ∃ p, rs[k]? = some p := ⟨rs[k]'(by rw [HNE.out]; exact hlk), List.getElem?_eq_getElem (by rw [HNE.out]; exact hlk)⟩
      obtain ⟨q, hq⟩ : ∃ q, fs[k]? = some q := by
        have h9 : k < fs.length := by rw [HM.out.len, HNE.out]; exact hlk
        exact ⟨fs[k], List.getElem?_eq_getElem h9⟩
      obtain ⟨o1, o2⟩ := HM0.out.row k p q hp hq
      obtain ⟨p1, p2⟩ := p
      obtain ⟨q1, q2⟩ := q
      have stO := HM0.out.st
      rw [HNE.out] at stO
      obtain ⟨gS, rfl, hgS, hgSs, hcS⟩ := own_at' stO (by omega)
      have y0 : W0.cell? ⟨gS, k * 2, none⟩ = some (.slice (some ⟨p1, 0, none⟩) M M) := by rw [stO.cellAt (k * 2) (by omega), (flatRP_get hp).1]
      have y1 : W0.cell? ⟨gS, k * 2 + 1, none⟩ = some (.slice (some ⟨p2, 0, none⟩) M M) := by rw [stO.cellAt (k * 2 + 1) (by omega), (flatRP_get hp).2]
      have C1 := fun m => rsame_any p1 by_ M q1 f (W0.drewN m) ((own_rb o1).drewN m) ((own_rb (own_keeps H1.out HB.out)).drewN m) hM
      have C2 := fun m => rsame_any p2 bn M q2 h (W0.drewN m) ((own_rb o2).drewN m) ((own_rb (own_keeps H2.out HB.out)).drewN m) hM
      have HQ := hid hq
      clear hp hq o1 o2 stO
      have cT' : ∀ m, (W0.drewN m).cell? ⟨T, 0, none⟩ = some (.slice (some ⟨gS, 0, none⟩) n cpS) := fun m => cT
      have y1' : ∀ m, (W0.drewN m).cell? ⟨gS, k * 2 + 1, none⟩ = some (.slice (some ⟨p2, 0, none⟩) M M) := fun m => y1
      have x1' : ∀ m, (W0.drewN m).cell? ⟨w.heap.size, 1, none⟩ = some (.slice (some ⟨bn, 0, none⟩) M M) := fun m => x1
      have hS1 := hid (sameB_iff (f := q1) (h := f) (N := M))
      have hS2 := hid (sameB_iff (f := q2) (h := h) (N := M))
      generalize sameB q1 f M = s1 at *
      generalize sameB q2 h M = s2 at *
      go_wp2_with fail
      go_quiet ((go_at_call 120; exact Calls.quiet_of (C1 _)))
      have z1 := cT' nq
      have z2 := y1' nq
      have z3 := x1' nq
      have C3 := fun m => (by rw [World.drewN_drewN]; exact C2 (nq + m) : Calls Try.prog 120 #[.slice (some ⟨p2, 0, none⟩) M M, .slice (some ⟨bn, 0, none⟩) M M] ((W0.drewN nq).drewN m) fun e w' => e = .returned (.bool s2) ∧ ∃ m', w' = ((W0.drewN nq).drewN m).drewN m')
      have HB1 := hid (below_drewN HB.out nq)
      have HX1 : Hid (Two (W0.drewN nq) w.heap.size (.slice (some ⟨by_, 0, none⟩) M M) (.slice (some ⟨bn, 0, none⟩) M M)) := hid (HX.out.below (below_drewN (Below.refl W0.heap.size W0) nq) hsz)
      have hsz1 : w.heap.size < (W0.drewN nq).heap.size := hsz
      clear C1 C2 cT' y1' x1' cT x0 x1 y0 y1 HB HX HM0
      generalize W0.drewN nq = W1 at *
      go_wp2_with fail
      go_quiet ((go_at_call 120; exact Calls.quiet_of (C3 _)))
      have HB2 := hid (below_drewN HB1.out nq)
      have HX2 : Hid (Two (W1.drewN nq) w.heap.size (.slice (some ⟨by_, 0, none⟩) M M) (.slice (some ⟨bn, 0, none⟩) M M)) := hid (HX1.out.below (below_drewN (Below.refl W1.heap.size W1) nq) hsz1)
      have hsz2 : w.heap.size < (W1.drewN nq).heap.size := hsz1
      clear C3 z1 z2 z3 HB1 HX1
      generalize W1.drewN nq = W2 at *
      have HNX : Hid ((s1 && s2) = false → ∀ i p, i < k + 1 → fs[i]? = some p → ¬ ((∀ i, i < M → p.1 i = f i) ∧ ∀ i, i < M → p.2 i = h i)) := hid (fun e i p hi hp => by
        by_cases c : i = k
        · subst c
          rw [HQ.out] at hp
          cases hp
          rintro ⟨a1, a2⟩
          rw [hS1.out.2 a1, hS2.out.2 a2] at e
          cases e
        · exact HA.out i p (by omega) hp)
      cases s1 with
      | false =>
        go_wp2_with fail
        go_roundw
        case rel => exact ⟨k + 1, by omega, by go_num, hid (HNX.out rfl), HX2, hsz2, HB2⟩
        case measure => simp [intOf]; omega
      | true =>
        cases s2 with
        | false =>
          go_wp2_with fail
          go_roundw
          case rel => exact ⟨k + 1, by omega, by go_num, hid (HNX.out rfl), HX2, hsz2, HB2⟩
          case measure => simp [intOf]; omega
        | true =>
          go_wp2_with fail
          go_ret
          have HM2 := HM.out.below HB2.out
          exact ⟨k, _, _, rs, fs, outs, rfl, HM2, KB.of_below HB2.out, Or.inl rfl, Or.inl ⟨rfl, rfl, rfl, (q1, q2), HQ.out, hS1.out.1 (by first | rfl | trivial)⟩⟩
    · obtain rfl : k = n := by omega
      have TD := told_any by_ bn M f h W0 (own_rb (own_keeps H1.out HB.out)) (own_rb (own_keeps H2.out HB.out)) hM
      generalize htd : toldB (noneB f M) (noneB h M) = td at *
      have HTD := hid htd
      clear htd
      go_wp2_with fail
      refine TD.mono ?_
      rintro e W0 ⟨rfl, rfl⟩
      clear TD
      go_wp2_with fail
      have fT := HM0.out.t.fz 0 (by omega)
      have hTW : T < W0.heap.size := by omega
      have OW := HM0.out.st
      rw [HNE.out] at OW
      have OW := hid OW
      have HNSn : Hid (∀ q, (Value.slice aoS k cpS).ownBlock = some q → q < w.heap.size) := hid (fun q h => (HNS.out q h).2)
      have HNSb : Hid (∀ q, (Value.slice aoS k cpS).ownBlock = some q → B ≤ q) := hid (fun q h => (HNS.out q h).1)
      have hneT : (Value.slice aoS k cpS).ownBlock ≠ some T := fun e => by have := HNSb.out _ e; omega
      have XH : Hid (W0.cell? ⟨w.heap.size, 0, none⟩ = some (.slice (some ⟨by_, 0, none⟩) M M) ∧ W0.cell? ⟨w.heap.size, 1, none⟩ = some (.slice (some ⟨bn, 0, none⟩) M M)) := hid ⟨x0, x1⟩
      refine wp_region_held_drew (S := fun W => W.cell? ⟨w.heap.size, 0, none⟩ = some (.slice (some ⟨by_, 0, none⟩) M M) ∧ W.cell? ⟨w.heap.size, 1, none⟩ = some (.slice (some ⟨bn, 0, none⟩) M M)) (by kernel_rfl) XH.out (fun hHeld => ?_)
      refine wpAnyH_take (i := 0) (oi := { dst := some 50, op := Op.move (.tmp 0), type := _, pos := _, after := _, guard := none }) (v := (Value.pointer (some ⟨T, 0, none⟩))) rfl (by kernel_rfl) (by kernel_rfl) (by kernel_rfl) (fun _ _ _ h => h) (Or.inl ⟨by rfl, by intro w' hSw; (try dsimp only at hSw); go_simp⟩) (by assumption) ?_
      simp only [Act.put, List.setIfInBounds_toArray, List.set_cons_zero, List.set_cons_succ]
      refine wpAnyH_take (i := 1) (oi := { dst := some 51, op := Op.move (.tmp 0), type := _, pos := _, after := _, guard := none }) (v := (Value.pointer (some ⟨T, 0, none⟩))) rfl (by kernel_rfl) (by kernel_rfl) (by kernel_rfl) (fun _ _ _ h => h) (Or.inl ⟨by rfl, by intro w' hSw; (try dsimp only at hSw); go_simp⟩) (by assumption) ?_
      simp only [Act.put, List.setIfInBounds_toArray, List.set_cons_zero, List.set_cons_succ]
      refine wpAnyH_take (i := 2) (oi := { dst := some 52, op := Op.nilCheck (.tmp 51), type := _, pos := _, after := _, guard := none }) (v := (Value.pointer (some ⟨T, 0, none⟩))) rfl (by kernel_rfl) (by kernel_rfl) (by kernel_rfl) (fun _ _ _ h => h) (Or.inl ⟨by rfl, by intro w' hSw; (try dsimp only at hSw); go_simp⟩) (by assumption) ?_
      simp only [Act.put, List.setIfInBounds_toArray, List.set_cons_zero, List.set_cons_succ]
      refine wpAnyH_take (i := 3) (oi := { dst := some 53, op := Op.fieldAddr _ (.tmp 52) 0, type := _, pos := _, after := _, guard := none }) (v := (Value.pointer (some ⟨T, 0, none⟩))) rfl (by kernel_rfl) (by kernel_rfl) (by kernel_rfl) (fun _ _ _ h => h) (Or.inl ⟨by rfl, by intro w' hSw; (try dsimp only at hSw); go_simp⟩) (by assumption) ?_
      simp only [Act.put, List.setIfInBounds_toArray, List.set_cons_zero, List.set_cons_succ]
      refine wpAnyH_take (i := 5) (oi := { dst := some 55, op := Op.load 156 (.tmp 3), type := _, pos := _, after := _, guard := none }) (v := (Value.agg #[Value.slice (some ⟨by_, 0, none⟩) M M, Value.slice (some ⟨bn, 0, none⟩) M M])) rfl (by kernel_rfl) (by kernel_rfl) (by kernel_rfl) (fun _ _ _ h => h) (Or.inl ⟨by rfl, by intro w' hSw; obtain ⟨hSa, hSb⟩ := hSw; go_simp⟩) (by assumption) ?_
      simp only [Act.put, List.setIfInBounds_toArray, List.set_cons_zero, List.set_cons_succ]
      refine wpAnyH_ready (rs := [4, 6]) (by kernel_rfl) (by simp) ?_
      refine AllReadyH.cons rfl (fun K hK => ?_) (AllReadyH.cons rfl (fun K hK => ?_) AllReadyH.nil)
      · go_simp
        refine hK.out _ _ (by assumption) (fun hHeld => ?_)
        clear hK K
        refine wpAnyH_ready (rs := [6]) (by kernel_rfl) (by simp) ?_
        refine AllReadyH.cons rfl (fun K hK => ?_) AllReadyH.nil
        go_simp
        refine hK.out _ _ ⟨by show (W0.alloc _).cell? _ = _; rw [World.cell?_alloc_lt _ _ _ hsz]; exact XH.out.1, by show (W0.alloc _).cell? _ = _; rw [World.cell?_alloc_lt _ _ _ hsz]; exact XH.out.2⟩ (fun hHeld => ?_)
        clear hK K
        refine wpAnyH_ready (rs := [7]) (by kernel_rfl) (by simp) ?_
        refine AllReadyH.cons rfl (fun K hK => ?_) AllReadyH.nil
        refine step_append_lies _ (by rfl) (.tmp 54) (.tmp 56) 100 (by rfl) B 156 i0 (.agg #[.slice none 0 0, .slice none 0 0]) 2 48 Try.underlying100 hi hz0 hz1 hz2 rfl (by decide) _ k (flatRP rs M) (by rfl) ((OW.out.alloc _).drew) ⟨W0.heap.size, 0, none⟩ 1 1 [.slice (some ⟨by_, 0, none⟩) M M, .slice (some ⟨bn, 0, none⟩) M M] (by rfl) (by rfl) (cells_put W0 _ _) (by intro y hy; simp at hy; rcases hy with rfl | rfl <;> rfl) (by decide) (by unfold maxLen; omega) (by omega) (by simp; omega) (W0.heap.size + 1) (by simp) ?_
        intro gg cc w2 hown hgrow hat hlt2
        have hrow : ∀ q, some q = (Value.slice aoS k cpS).ownBlock → q < w.heap.size := fun q h => HNSn.out q h.symm
        have hggT : gg ≠ T := by
          rcases hat with h | h
          · exact fun e => hneT (by rw [← e]; exact h)
          · omega
        have hszN : W0.heap.size + 1 ≤ w2.heap.size := by
          have h4 : (W0.drew.alloc (.cells #[Value.slice (some ⟨by_, 0, none⟩) M M, Value.slice (some ⟨bn, 0, none⟩) M M] 156)).heap.size ≤ w2.heap.size := hgrow.size
          rw [World.size_alloc] at h4
          exact h4
        have KB2 : KB W0 w2 T (Value.slice aoS k cpS).ownBlock none := ⟨hgrow.os, hgrow.tape, hgrow.output, by omega, fun q hq h1 h2 _ => by
          rw [hgrow.block q (by show q < (W0.alloc (.cells #[Value.slice (some ⟨by_, 0, none⟩) M M, Value.slice (some ⟨bn, 0, none⟩) M M] 156)).heap.size; rw [World.size_alloc]; omega) h2]
          show (W0.alloc (.cells #[Value.slice (some ⟨by_, 0, none⟩) M M, Value.slice (some ⟨bn, 0, none⟩) M M] 156)).heap[q]? = _
          rw [Below.heap_alloc _ _ _ (by omega)]⟩
        have T2 : Three w2 T (.slice aoS k cpS) (.slice aoO k cpO) vN := by
          have hb := hgrow.block T (by show T < (W0.alloc (.cells #[Value.slice (some ⟨by_, 0, none⟩) M M, Value.slice (some ⟨bn, 0, none⟩) M M] 156)).heap.size; rw [World.size_alloc]; omega) (fun e => hneT e.symm)
          have hc : ∀ o, w2.cell? ⟨T, o, none⟩ = W0.cell? ⟨T, o, none⟩ := fun o => by
            rw [World.cell?_of_block (a := ⟨T, o, none⟩) hb]
            show (W0.alloc (.cells #[Value.slice (some ⟨by_, 0, none⟩) M M, Value.slice (some ⟨bn, 0, none⟩) M M] 156)).cell? ⟨T, o, none⟩ = _
            exact World.cell?_alloc_lt _ _ _ hTW
          have hf : ∀ o, w2.frozen? ⟨T, o, none⟩ = W0.frozen? ⟨T, o, none⟩ := fun o => by
            rw [World.frozen?_of_block (a := ⟨T, o, none⟩) hb]
            show (W0.alloc (.cells #[Value.slice (some ⟨by_, 0, none⟩) M M, Value.slice (some ⟨bn, 0, none⟩) M M] 156)).frozen? ⟨T, o, none⟩ = _
            exact World.frozen?_alloc_past _ _ _ hTW
          exact ⟨(hc 0).trans HM0.out.t.c0, (hc 1).trans HM0.out.t.c1, (hc 2).trans HM0.out.t.c2, fun o ho => (hf o).trans (HM0.out.t.fz o ho)⟩
        have g2 : w2.cell? ⟨w.heap.size, 0, none⟩ = some (.slice (some ⟨by_, 0, none⟩) M M) ∧ w2.cell? ⟨w.heap.size, 1, none⟩ = some (.slice (some ⟨bn, 0, none⟩) M M) := ⟨(KB2.cell (p := ⟨w.heap.size, 0, none⟩) hsz (by show w.heap.size ≠ T; omega) (fun e => Nat.lt_irrefl _ (hrow _ e)) (by simp)).trans XH.out.1, (KB2.cell (p := ⟨w.heap.size, 1, none⟩) hsz (by show w.heap.size ≠ T; omega) (fun e => Nat.lt_irrefl _ (hrow _ e)) (by simp)).trans XH.out.2⟩
        have D1 := hid (T2.set0 (.slice (some ⟨gg, 0, none⟩) (k + 1) cc))
        have D2 := hid (own_setx' hown ⟨T, 0, none⟩ (.slice (some ⟨gg, 0, none⟩) (k + 1) cc) (by simpa [Value.ownBlock] using hggT))
        have oOu := HM0.out.ou
        rw [HNE.out] at oOu
        have hneO : (Value.slice aoO k cpO).ownBlock ≠ some T := fun e => by have := (HNO.out _ e).1; omega
        have D3 := hid (own_setx' (own_kb oOu KB2 hneO (own_ne' oOu OW.out (by decide)) (by cases (Value.slice aoO k cpO).ownBlock <;> simp)) ⟨T, 0, none⟩ (.slice (some ⟨gg, 0, none⟩) (k + 1) cc) hneO)
        have RW : Hid (∀ (g M : Nat) (F : Nat → Bool), W0.ownsRow B 4 1 (.slice (some ⟨g, 0, none⟩) M M) M (outTo F M M) → (w2.setCell ⟨T, 0, none⟩ (.slice (some ⟨gg, 0, none⟩) (k + 1) cc)).ownsRow B 4 1 (.slice (some ⟨g, 0, none⟩) M M) M (outTo F M M)) := hid (fun g M F ho => by
          have hn : (Value.slice (some ⟨g, 0, none⟩) M M).ownBlock ≠ some T := fun e => by have := (ho.lt _ e).1; omega
          exact own_setx' (own_kb ho KB2 hn (own_ne' ho OW.out (by decide)) (by simp [Value.ownBlock])) ⟨T, 0, none⟩ _ hn)
        have KB3 : Hid (KB w (w2.setCell ⟨T, 0, none⟩ (.slice (some ⟨gg, 0, none⟩) (k + 1) cc)) T (Value.slice aoS k cpS).ownBlock none) := hid ⟨KB2.os.trans HB.out.os, KB2.tape.trans HB.out.tape, KB2.output.trans HB.out.output, by rw [World.size_setCell]; omega, fun q hq h1 h2 h3 => by
          rw [Below.heap_setCell _ _ _ _ h1, KB2.block q (by omega) h1 h2 h3]
          exact HB.out.block q hq⟩
        refine hK.out _ _ g2 (fun hHeld => ?_)
        have HS5 : Hid ((w2.setCell ⟨T, 0, none⟩ (.slice (some ⟨gg, 0, none⟩) (k + 1) cc)).cell? ⟨w.heap.size, 0, none⟩ = some (.slice (some ⟨by_, 0, none⟩) M M) ∧ (w2.setCell ⟨T, 0, none⟩ (.slice (some ⟨gg, 0, none⟩) (k + 1) cc)).cell? ⟨w.heap.size, 1, none⟩ = some (.slice (some ⟨bn, 0, none⟩) M M)) := hid ⟨by rw [World.cell?_setCell_other _ _ _ _ (fun e => by have := congrArg Addr.block e; simp at this; omega)]; exact g2.1, by rw [World.cell?_setCell_other _ _ _ _ (fun e => by have := congrArg Addr.block e; simp at this; omega)]; exact g2.2⟩
        have c2 := T2.c0
        have f2 := T2.fz 0 (by omega)
        clear hK K hown hgrow hat g2 hrow oOu KB2 T2
        simp only [Act.put, List.setIfInBounds_toArray]
        refine wpAnyH_take (i := 8) (oi := { dst := some 58, op := Op.nilCheck (.tmp 50), type := _, pos := _, after := _, guard := none }) (v := (Value.pointer (some ⟨T, 0, none⟩))) rfl (by kernel_rfl) (by kernel_rfl) (by kernel_rfl) (fun _ _ _ h => h) (Or.inl ⟨by rfl, by intro w' hSw; (try dsimp only at hSw); go_simp⟩) (by assumption) ?_
        simp only [Act.put]
        refine wpAnyH_take (i := 9) (oi := { dst := some 59, op := Op.fieldAddr _ (.tmp 58) 0, type := _, pos := _, after := _, guard := none }) (v := (Value.pointer (some ⟨T, 0, none⟩))) rfl (by kernel_rfl) (by kernel_rfl) (by kernel_rfl) (fun _ _ _ h => h) (Or.inl ⟨by rfl, by intro w' hSw; (try dsimp only at hSw); go_simp⟩) (by assumption) ?_
        simp only [Act.put]
        refine wpAnyH_ready (rs := [10]) (by kernel_rfl) (by simp) ?_
        refine AllReadyH.cons rfl (fun K hK => ?_) AllReadyH.nil
        go_simp
        refine hK.out _ _ HS5.out (fun hHeld => ?_)
        clear hK K
        refine wpAnyH_done (by kernel_rfl) ?_ _
        clear hHeld c2 f2 cT fT HS5 x0 x1
        have hsz5 : w.heap.size < (w2.setCell ⟨T, 0, none⟩ (.slice (some ⟨gg, 0, none⟩) (k + 1) cc)).heap.size := by rw [World.size_setCell]; omega
        generalize w2.setCell ⟨T, 0, none⟩ (.slice (some ⟨gg, 0, none⟩) (k + 1) cc) = W5 at *
        have e0 := D1.out.c0
        have e1 := D1.out.c1
        have e2 := D1.out.fz 1 (by omega)
        go_wp2_with (at_builtin; go_must (refine wpList_append_lies _ rfl (.tmp 64) (.tmp 66) 27 rfl B 3 i1 (.int .i64 0) 1 8 Try.underlying27 hi1 hz01 hz11 hz21 rfl (by decide) _ k (nInts outs) rfl (D3.out.alloc _) ⟨W5.heap.size, 0, none⟩ 1 1 [.int .i64 (td : Nat)] rfl rfl (cells_put W5 [.int .i64 (td : Nat)] _) (by intro y hy; simp at hy; rcases hy with rfl; rfl) (by decide) (by unfold maxLen; omega) (by omega) (by simp; omega) (W5.heap.size + 1) (by simp) ?_))
        intro go co w6 hownO hgrowO hatO hltO
        have hszO : W5.heap.size ≤ w6.heap.size := by
          have h4 := hgrowO.size
          simp at h4
          omega
        have hgoT : go ≠ T := by
          rcases hatO with h | h
          · exact fun e => hneO (by rw [← e]; exact h)
          · omega
        have KB6 : KB W5 w6 T (Value.slice aoO k cpO).ownBlock none := ⟨hgrowO.os, hgrowO.tape, hgrowO.output, hszO, fun q hq h1 h2 _ => by
          rw [hgrowO.block q (by rw [World.size_alloc]; omega) h2, Below.heap_alloc _ _ _ (by omega)]⟩
        have hbT := hgrowO.block T (by rw [World.size_alloc]; omega) (fun e => hneO e.symm)
        have T6 : Three w6 T (.slice (some ⟨gg, 0, none⟩) (k + 1) cc) (.slice aoO k cpO) vN := by
          have hc : ∀ o, w6.cell? ⟨T, o, none⟩ = W5.cell? ⟨T, o, none⟩ := fun o => by
            rw [World.cell?_of_block (a := ⟨T, o, none⟩) hbT]
            exact World.cell?_alloc_lt _ _ _ (by show T < W5.heap.size; omega)
          have hf : ∀ o, w6.frozen? ⟨T, o, none⟩ = W5.frozen? ⟨T, o, none⟩ := fun o => by
            rw [World.frozen?_of_block (a := ⟨T, o, none⟩) hbT]
            exact World.frozen?_alloc_past _ _ _ (by show T < W5.heap.size; omega)
          exact ⟨(hc 0).trans D1.out.c0, (hc 1).trans D1.out.c1, (hc 2).trans D1.out.c2, fun o ho => (hf o).trans (D1.out.fz o ho)⟩
        have q0 := T6.c0
        have q1 := T6.c1
        have q2 := T6.fz 1 (by omega)
        have E1 := hid (T6.set1 (.slice (some ⟨go, 0, none⟩) (k + 1) co))
        have e10 := E1.out.c0
        have hgg : (Value.slice (some ⟨gg, 0, none⟩) (k + 1) cc).ownBlock ≠ some T := by simpa [Value.ownBlock] using hggT
        have E2 := hid (own_setx' (own_kb D2.out KB6 hgg (own_ne' D2.out D3.out (by decide)) (by simp [Value.ownBlock])) ⟨T, 1, none⟩ (.slice (some ⟨go, 0, none⟩) (k + 1) co) hgg)
        have E3 := hid (own_setx' hownO ⟨T, 1, none⟩ (.slice (some ⟨go, 0, none⟩) (k + 1) co) (by simpa [Value.ownBlock] using hgoT))
        have RW2 : Hid (∀ (g M : Nat) (F : Nat → Bool), W0.ownsRow B 4 1 (.slice (some ⟨g, 0, none⟩) M M) M (outTo F M M) → (w6.setCell ⟨T, 1, none⟩ (.slice (some ⟨go, 0, none⟩) (k + 1) co)).ownsRow B 4 1 (.slice (some ⟨g, 0, none⟩) M M) M (outTo F M M)) := hid (fun g M F ho => by
          have hn : (Value.slice (some ⟨g, 0, none⟩) M M).ownBlock ≠ some T := fun e => by have := (ho.lt _ e).1; omega
          have h5 := RW.out _ _ _ ho
          exact own_setx' (own_kb h5 KB6 hn (own_ne' h5 D3.out (by decide)) (by simp [Value.ownBlock])) ⟨T, 1, none⟩ _ hn)
        have KBF : Hid (KB w (w6.setCell ⟨T, 1, none⟩ (.slice (some ⟨go, 0, none⟩) (k + 1) co)) T (Value.slice aoS k cpS).ownBlock (Value.slice aoO k cpO).ownBlock) := hid ⟨KB6.os.trans KB3.out.os, KB6.tape.trans KB3.out.tape, KB6.output.trans KB3.out.output, by rw [World.size_setCell]; omega, fun q hq h1 h2 h3 => by
          rw [Below.heap_setCell _ _ _ _ h1, KB6.block q (by omega) h1 h3 (by simp), KB3.out.block q hq h1 h2 (by simp)]⟩
        have OB : Hid ((Value.slice (some ⟨go, 0, none⟩) (k + 1) co).ownBlock = (Value.slice aoO k cpO).ownBlock ∨ ∃ q, (Value.slice (some ⟨go, 0, none⟩) (k + 1) co).ownBlock = some q ∧ w.heap.size ≤ q) := hid (by
          rcases hatO with h | h
          · exact Or.inl (by rw [h]; rfl)
          · exact Or.inr ⟨go, rfl, by omega⟩)
        clear hownO hgrowO hatO KB6 T6 hbT D1 D2 D3 e0 e1 e2
        go_wp2_with fail
        go_ret
        refine ⟨k, .slice (some ⟨gg, 0, none⟩) (k + 1) cc, .slice (some ⟨go, 0, none⟩) (k + 1) co, rs ++ [(by_, bn)], fs ++ [(f, h)], outs ++ [td], by go_num, ⟨E1.out, hTB, by rw [List.length_append, List.length_append, HM.out.len]; rfl, by rw [List.length_append, List.length_append, HM.out.olen]; rfl, ?_, ?_, ?_⟩, KBF.out, OB.out, Or.inr ⟨HNE.out.symm, rfl, rfl, by rw [HTD.out], fun p hp => ?_⟩⟩
        · rw [List.length_append, HNE.out, flatRP_snoc]
          exact E2.out
        · rw [List.length_append, HNE.out, show nInts (outs ++ [td]) = nInts outs ++ [.int .i64 (td : Nat)] by simp [nInts]]
          exact E3.out
        · intro i p q hp hq
          by_cases c : i < rs.length
          · rw [List.getElem?_append_left c] at hp
            rw [List.getElem?_append_left (by rw [HM.out.len]; exact c)] at hq
            obtain ⟨r1, r2⟩ := HM0.out.row i p q hp hq
            exact ⟨RW2.out _ _ _ r1, RW2.out _ _ _ r2⟩
          · have c2 := (List.getElem?_eq_some_iff.1 hp).1
            simp at c2
            have c3 : i = rs.length := by omega
            subst c3
            rw [← HM.out.len] at hq
            simp at hp hq
            subst hp
            subst hq
            exact ⟨RW2.out _ _ _ (own_keeps H1.out HB.out), RW2.out _ _ _ (own_keeps H2.out HB.out)⟩
        · obtain ⟨i, hi, e⟩ := List.getElem_of_mem hp
          exact HA.out i p (by rw [← HNE.out, ← HM.out.len]; exact hi) (by rw [List.getElem?_eq_getElem hi, e])
      · go_simp
        refine hK.out _ _ ⟨by show (W0.alloc _).cell? _ = _; rw [World.cell?_alloc_lt _ _ _ hsz]; exact XH.out.1, by show (W0.alloc _).cell? _ = _; rw [World.cell?_alloc_lt _ _ _ hsz]; exact XH.out.2⟩ (fun hHeld => ?_)
        clear hK K
        refine wpAnyH_ready (rs := [4]) (by kernel_rfl) (by simp) ?_
        refine AllReadyH.cons rfl (fun K hK => ?_) AllReadyH.nil
        go_simp
        refine hK.out _ _ (by assumption) (fun hHeld => ?_)
        clear hK K
        refine wpAnyH_ready (rs := [7]) (by kernel_rfl) (by simp) ?_
        refine AllReadyH.cons rfl (fun K hK => ?_) AllReadyH.nil
        refine step_append_lies _ (by rfl) (.tmp 54) (.tmp 56) 100 (by rfl) B 156 i0 (.agg #[.slice none 0 0, .slice none 0 0]) 2 48 Try.underlying100 hi hz0 hz1 hz2 rfl (by decide) _ k (flatRP rs M) (by rfl) ((OW.out.alloc _).drew) ⟨W0.heap.size, 0, none⟩ 1 1 [.slice (some ⟨by_, 0, none⟩) M M, .slice (some ⟨bn, 0, none⟩) M M] (by rfl) (by rfl) (cells_put W0 _ _) (by intro y hy; simp at hy; rcases hy with rfl | rfl <;> rfl) (by decide) (by unfold maxLen; omega) (by omega) (by simp; omega) (W0.heap.size + 1) (by simp) ?_
        intro gg cc w2 hown hgrow hat hlt2
        have hrow : ∀ q, some q = (Value.slice aoS k cpS).ownBlock → q < w.heap.size := fun q h => HNSn.out q h.symm
        have hggT : gg ≠ T := by
          rcases hat with h | h
          · exact fun e => hneT (by rw [← e]; exact h)
          · omega
        have hszN : W0.heap.size + 1 ≤ w2.heap.size := by
          have h4 : (W0.drew.alloc (.cells #[Value.slice (some ⟨by_, 0, none⟩) M M, Value.slice (some ⟨bn, 0, none⟩) M M] 156)).heap.size ≤ w2.heap.size := hgrow.size
          rw [World.size_alloc] at h4
          exact h4
        have KB2 : KB W0 w2 T (Value.slice aoS k cpS).ownBlock none := ⟨hgrow.os, hgrow.tape, hgrow.output, by omega, fun q hq h1 h2 _ => by
          rw [hgrow.block q (by show q < (W0.alloc (.cells #[Value.slice (some ⟨by_, 0, none⟩) M M, Value.slice (some ⟨bn, 0, none⟩) M M] 156)).heap.size; rw [World.size_alloc]; omega) h2]
          show (W0.alloc (.cells #[Value.slice (some ⟨by_, 0, none⟩) M M, Value.slice (some ⟨bn, 0, none⟩) M M] 156)).heap[q]? = _
          rw [Below.heap_alloc _ _ _ (by omega)]⟩
        have T2 : Three w2 T (.slice aoS k cpS) (.slice aoO k cpO) vN := by
          have hb := hgrow.block T (by show T < (W0.alloc (.cells #[Value.slice (some ⟨by_, 0, none⟩) M M, Value.slice (some ⟨bn, 0, none⟩) M M] 156)).heap.size; rw [World.size_alloc]; omega) (fun e => hneT e.symm)
          have hc : ∀ o, w2.cell? ⟨T, o, none⟩ = W0.cell? ⟨T, o, none⟩ := fun o => by
            rw [World.cell?_of_block (a := ⟨T, o, none⟩) hb]
            show (W0.alloc (.cells #[Value.slice (some ⟨by_, 0, none⟩) M M, Value.slice (some ⟨bn, 0, none⟩) M M] 156)).cell? ⟨T, o, none⟩ = _
            exact World.cell?_alloc_lt _ _ _ hTW
          have hf : ∀ o, w2.frozen? ⟨T, o, none⟩ = W0.frozen? ⟨T, o, none⟩ := fun o => by
            rw [World.frozen?_of_block (a := ⟨T, o, none⟩) hb]
            show (W0.alloc (.cells #[Value.slice (some ⟨by_, 0, none⟩) M M, Value.slice (some ⟨bn, 0, none⟩) M M] 156)).frozen? ⟨T, o, none⟩ = _
            exact World.frozen?_alloc_past _ _ _ hTW
          exact ⟨(hc 0).trans HM0.out.t.c0, (hc 1).trans HM0.out.t.c1, (hc 2).trans HM0.out.t.c2, fun o ho => (hf o).trans (HM0.out.t.fz o ho)⟩
        have g2 : w2.cell? ⟨w.heap.size, 0, none⟩ = some (.slice (some ⟨by_, 0, none⟩) M M) ∧ w2.cell? ⟨w.heap.size, 1, none⟩ = some (.slice (some ⟨bn, 0, none⟩) M M) := ⟨(KB2.cell (p := ⟨w.heap.size, 0, none⟩) hsz (by show w.heap.size ≠ T; omega) (fun e => Nat.lt_irrefl _ (hrow _ e)) (by simp)).trans XH.out.1, (KB2.cell (p := ⟨w.heap.size, 1, none⟩) hsz (by show w.heap.size ≠ T; omega) (fun e => Nat.lt_irrefl _ (hrow _ e)) (by simp)).trans XH.out.2⟩
        have D1 := hid (T2.set0 (.slice (some ⟨gg, 0, none⟩) (k + 1) cc))
        have D2 := hid (own_setx' hown ⟨T, 0, none⟩ (.slice (some ⟨gg, 0, none⟩) (k + 1) cc) (by simpa [Value.ownBlock] using hggT))
        have oOu := HM0.out.ou
        rw [HNE.out] at oOu
        have hneO : (Value.slice aoO k cpO).ownBlock ≠ some T := fun e => by have := (HNO.out _ e).1; omega
        have D3 := hid (own_setx' (own_kb oOu KB2 hneO (own_ne' oOu OW.out (by decide)) (by cases (Value.slice aoO k cpO).ownBlock <;> simp)) ⟨T, 0, none⟩ (.slice (some ⟨gg, 0, none⟩) (k + 1) cc) hneO)
        have RW : Hid (∀ (g M : Nat) (F : Nat → Bool), W0.ownsRow B 4 1 (.slice (some ⟨g, 0, none⟩) M M) M (outTo F M M) → (w2.setCell ⟨T, 0, none⟩ (.slice (some ⟨gg, 0, none⟩) (k + 1) cc)).ownsRow B 4 1 (.slice (some ⟨g, 0, none⟩) M M) M (outTo F M M)) := hid (fun g M F ho => by
          have hn : (Value.slice (some ⟨g, 0, none⟩) M M).ownBlock ≠ some T := fun e => by have := (ho.lt _ e).1; omega
          exact own_setx' (own_kb ho KB2 hn (own_ne' ho OW.out (by decide)) (by simp [Value.ownBlock])) ⟨T, 0, none⟩ _ hn)
        have KB3 : Hid (KB w (w2.setCell ⟨T, 0, none⟩ (.slice (some ⟨gg, 0, none⟩) (k + 1) cc)) T (Value.slice aoS k cpS).ownBlock none) := hid ⟨KB2.os.trans HB.out.os, KB2.tape.trans HB.out.tape, KB2.output.trans HB.out.output, by rw [World.size_setCell]; omega, fun q hq h1 h2 h3 => by
          rw [Below.heap_setCell _ _ _ _ h1, KB2.block q (by omega) h1 h2 h3]
          exact HB.out.block q hq⟩
        refine hK.out _ _ g2 (fun hHeld => ?_)
        have HS5 : Hid ((w2.setCell ⟨T, 0, none⟩ (.slice (some ⟨gg, 0, none⟩) (k + 1) cc)).cell? ⟨w.heap.size, 0, none⟩ = some (.slice (some ⟨by_, 0, none⟩) M M) ∧ (w2.setCell ⟨T, 0, none⟩ (.slice (some ⟨gg, 0, none⟩) (k + 1) cc)).cell? ⟨w.heap.size, 1, none⟩ = some (.slice (some ⟨bn, 0, none⟩) M M)) := hid ⟨by rw [World.cell?_setCell_other _ _ _ _ (fun e => by have := congrArg Addr.block e; simp at this; omega)]; exact g2.1, by rw [World.cell?_setCell_other _ _ _ _ (fun e => by have := congrArg Addr.block e; simp at this; omega)]; exact g2.2⟩
        have c2 := T2.c0
        have f2 := T2.fz 0 (by omega)
        clear hK K hown hgrow hat g2 hrow oOu KB2 T2
        simp only [Act.put, List.setIfInBounds_toArray]
        refine wpAnyH_take (i := 8) (oi := { dst := some 58, op := Op.nilCheck (.tmp 50), type := _, pos := _, after := _, guard := none }) (v := (Value.pointer (some ⟨T, 0, none⟩))) rfl (by kernel_rfl) (by kernel_rfl) (by kernel_rfl) (fun _ _ _ h => h) (Or.inl ⟨by rfl, by intro w' hSw; (try dsimp only at hSw); go_simp⟩) (by assumption) ?_
        simp only [Act.put]
        refine wpAnyH_take (i := 9) (oi := { dst := some 59, op := Op.fieldAddr _ (.tmp 58) 0, type := _, pos := _, after := _, guard := none }) (v := (Value.pointer (some ⟨T, 0, none⟩))) rfl (by kernel_rfl) (by kernel_rfl) (by kernel_rfl) (fun _ _ _ h => h) (Or.inl ⟨by rfl, by intro w' hSw; (try dsimp only at hSw); go_simp⟩) (by assumption) ?_
        simp only [Act.put]
        refine wpAnyH_ready (rs := [10]) (by kernel_rfl) (by simp) ?_
        refine AllReadyH.cons rfl (fun K hK => ?_) AllReadyH.nil
        go_simp
        refine hK.out _ _ HS5.out (fun hHeld => ?_)
        clear hK K
        refine wpAnyH_done (by kernel_rfl) ?_ _
        clear hHeld c2 f2 cT fT HS5 x0 x1
        have hsz5 : w.heap.size < (w2.setCell ⟨T, 0, none⟩ (.slice (some ⟨gg, 0, none⟩) (k + 1) cc)).heap.size := by rw [World.size_setCell]; omega
        generalize w2.setCell ⟨T, 0, none⟩ (.slice (some ⟨gg, 0, none⟩) (k + 1) cc) = W5 at *
        have e0 := D1.out.c0
        have e1 := D1.out.c1
        have e2 := D1.out.fz 1 (by omega)
        go_wp2_with (at_builtin; go_must (refine wpList_append_lies _ rfl (.tmp 64) (.tmp 66) 27 rfl B 3 i1 (.int .i64 0) 1 8 Try.underlying27 hi1 hz01 hz11 hz21 rfl (by decide) _ k (nInts outs) rfl (D3.out.alloc _) ⟨W5.heap.size, 0, none⟩ 1 1 [.int .i64 (td : Nat)] rfl rfl (cells_put W5 [.int .i64 (td : Nat)] _) (by intro y hy; simp at hy; rcases hy with rfl; rfl) (by decide) (by unfold maxLen; omega) (by omega) (by simp; omega) (W5.heap.size + 1) (by simp) ?_))
        intro go co w6 hownO hgrowO hatO hltO
        have hszO : W5.heap.size ≤ w6.heap.size := by
          have h4 := hgrowO.size
          simp at h4
          omega
        have hgoT : go ≠ T := by
          rcases hatO with h | h
          · exact fun e => hneO (by rw [← e]; exact h)
          · omega
        have KB6 : KB W5 w6 T (Value.slice aoO k cpO).ownBlock none := ⟨hgrowO.os, hgrowO.tape, hgrowO.output, hszO, fun q hq h1 h2 _ => by
          rw [hgrowO.block q (by rw [World.size_alloc]; omega) h2, Below.heap_alloc _ _ _ (by omega)]⟩
        have hbT := hgrowO.block T (by rw [World.size_alloc]; omega) (fun e => hneO e.symm)
        have T6 : Three w6 T (.slice (some ⟨gg, 0, none⟩) (k + 1) cc) (.slice aoO k cpO) vN := by
          have hc : ∀ o, w6.cell? ⟨T, o, none⟩ = W5.cell? ⟨T, o, none⟩ := fun o => by
            rw [World.cell?_of_block (a := ⟨T, o, none⟩) hbT]
            exact World.cell?_alloc_lt _ _ _ (by show T < W5.heap.size; omega)
          have hf : ∀ o, w6.frozen? ⟨T, o, none⟩ = W5.frozen? ⟨T, o, none⟩ := fun o => by
            rw [World.frozen?_of_block (a := ⟨T, o, none⟩) hbT]
            exact World.frozen?_alloc_past _ _ _ (by show T < W5.heap.size; omega)
          exact ⟨(hc 0).trans D1.out.c0, (hc 1).trans D1.out.c1, (hc 2).trans D1.out.c2, fun o ho => (hf o).trans (D1.out.fz o ho)⟩
        have q0 := T6.c0
        have q1 := T6.c1
        have q2 := T6.fz 1 (by omega)
        have E1 := hid (T6.set1 (.slice (some ⟨go, 0, none⟩) (k + 1) co))
        have e10 := E1.out.c0
        have hgg : (Value.slice (some ⟨gg, 0, none⟩) (k + 1) cc).ownBlock ≠ some T := by simpa [Value.ownBlock] using hggT
        have E2 := hid (own_setx' (own_kb D2.out KB6 hgg (own_ne' D2.out D3.out (by decide)) (by simp [Value.ownBlock])) ⟨T, 1, none⟩ (.slice (some ⟨go, 0, none⟩) (k + 1) co) hgg)
        have E3 := hid (own_setx' hownO ⟨T, 1, none⟩ (.slice (some ⟨go, 0, none⟩) (k + 1) co) (by simpa [Value.ownBlock] using hgoT))
        have RW2 : Hid (∀ (g M : Nat) (F : Nat → Bool), W0.ownsRow B 4 1 (.slice (some ⟨g, 0, none⟩) M M) M (outTo F M M) → (w6.setCell ⟨T, 1, none⟩ (.slice (some ⟨go, 0, none⟩) (k + 1) co)).ownsRow B 4 1 (.slice (some ⟨g, 0, none⟩) M M) M (outTo F M M)) := hid (fun g M F ho => by
          have hn : (Value.slice (some ⟨g, 0, none⟩) M M).ownBlock ≠ some T := fun e => by have := (ho.lt _ e).1; omega
          have h5 := RW.out _ _ _ ho
          exact own_setx' (own_kb h5 KB6 hn (own_ne' h5 D3.out (by decide)) (by simp [Value.ownBlock])) ⟨T, 1, none⟩ _ hn)
        have KBF : Hid (KB w (w6.setCell ⟨T, 1, none⟩ (.slice (some ⟨go, 0, none⟩) (k + 1) co)) T (Value.slice aoS k cpS).ownBlock (Value.slice aoO k cpO).ownBlock) := hid ⟨KB6.os.trans KB3.out.os, KB6.tape.trans KB3.out.tape, KB6.output.trans KB3.out.output, by rw [World.size_setCell]; omega, fun q hq h1 h2 h3 => by
          rw [Below.heap_setCell _ _ _ _ h1, KB6.block q (by omega) h1 h3 (by simp), KB3.out.block q hq h1 h2 (by simp)]⟩
        have OB : Hid ((Value.slice (some ⟨go, 0, none⟩) (k + 1) co).ownBlock = (Value.slice aoO k cpO).ownBlock ∨ ∃ q, (Value.slice (some ⟨go, 0, none⟩) (k + 1) co).ownBlock = some q ∧ w.heap.size ≤ q) := hid (by
          rcases hatO with h | h
          · exact Or.inl (by rw [h]; rfl)
          · exact Or.inr ⟨go, rfl, by omega⟩)
        clear hownO hgrowO hatO KB6 T6 hbT D1 D2 D3 e0 e1 e2
        go_wp2_with fail
        go_ret
        refine ⟨k, .slice (some ⟨gg, 0, none⟩) (k + 1) cc, .slice (some ⟨go, 0, none⟩) (k + 1) co, rs ++ [(by_, bn)], fs ++ [(f, h)], outs ++ [td], by go_num, ⟨E1.out, hTB, by rw [List.length_append, List.length_append, HM.out.len]; rfl, by rw [List.length_append, List.length_append, HM.out.olen]; rfl, ?_, ?_, ?_⟩, KBF.out, OB.out, Or.inr ⟨HNE.out.symm, rfl, rfl, by rw [HTD.out], fun p hp => ?_⟩⟩
        · rw [List.length_append, HNE.out, flatRP_snoc]
          exact E2.out
        · rw [List.length_append, HNE.out, show nInts (outs ++ [td]) = nInts outs ++ [.int .i64 (td : Nat)] by simp [nInts]]
          exact E3.out
        · intro i p q hp hq
          by_cases c : i < rs.length
          · rw [List.getElem?_append_left c] at hp
            rw [List.getElem?_append_left (by rw [HM.out.len]; exact c)] at hq
            obtain ⟨r1, r2⟩ := HM0.out.row i p q hp hq
            exact ⟨RW2.out _ _ _ r1, RW2.out _ _ _ r2⟩
          · have c2 := (List.getElem?_eq_some_iff.1 hp).1
            simp at c2
            have c3 : i = rs.length := by omega
            subst c3
            rw [← HM.out.len] at hq
            simp at hp hq
            subst hp
            subst hq
            exact ⟨RW2.out _ _ _ (own_keeps H1.out HB.out), RW2.out _ _ _ (own_keeps H2.out HB.out)⟩
        · obtain ⟨i, hi, e⟩ := List.getElem_of_mem hp
          exact HA.out i p (by rw [← HNE.out, ← HM.out.len]; exact hi) (by rw [List.getElem?_eq_getElem hi, e])

end Go.Proofs.Ytjagijohfkffiaa
