import Derived.Test.YtjagijohfkffiabCHEM14
import Derived.Test.YtjagijohfkffiabCHEM15

/- The walk of the reference's row, by kinds of parts. -/
namespace Go.Proofs.Ytjagijohfkffiab
open Go.RowKit
set_option linter.unusedVariables false
section
variable (ns : List Nd) (bs : List Nat) (gw n wcap back : Nat) (xs : List Nat)

set_option maxHeartbeats 1600000 in
set_option maxRecDepth 100000 in
theorem row_and (hw : Wf2 ns) (hlx : xs.length = n) (hb : back < n) (hn80 : n ≤ 20000) (h8 : ∀ x ∈ xs, x < 8) (k b : Nat) (nd : Nd) (hn : ns[k]? = some nd) (hop : nd.op = 38) (ihl : RowAt ns bs gw n wcap back xs nd.l) (ihr : RowAt ns bs gw n wcap back xs nd.r) (w : World) (hp : Parts w ns bs) (hwd : Wd w gw n wcap xs) (hbk : bs[k]? = some b) :
    Calls Try.prog 98 #[.pointer (some ⟨b, 0, none⟩), .slice (some ⟨gw, 0, none⟩) n wcap, .int .i64 back] w (RowPost ns n back xs k w) := by
  have hpb : w.heap[b]? = some (.cells #[.int .u8 (38 : Nat), .pointer (some ⟨bs.getD nd.l 0, 0, none⟩), .pointer (some ⟨bs.getD nd.r 0, 0, none⟩), .int .i64 k] 181) := by
    obtain ⟨b', e, hh⟩ := hp k nd hn
    rw [hbk] at e
    cases e
    rw [hh]
    simp [partObj, lptr, rptr, hop, leafB, twoB]
  have hbw := heap_lt hpb
  have hcap := hwd.cap
  have hgw := hwd.lt
  have hlk : nd.l < k := (wf2_class hw hn).2.1 (by rw [hop]; decide)
  have hkl := (List.getElem?_eq_some_iff.1 hn).1
  obtain ⟨bl, hbl, hhl⟩ : ∃ bl, bs[nd.l]? = some bl ∧ w.heap[bl]? = some (partObj bs nd.l ns[nd.l]) := hp nd.l _ (List.getElem?_eq_getElem (by omega))
  rw [show bs.getD nd.l 0 = bl by simp [List.getD, hbl]] at hpb
  have hrk : nd.r < k := (wf2_class hw hn).2.2 (by rw [hop]; decide)
  obtain ⟨br, hbr, hhr⟩ : ∃ br, bs[nd.r]? = some br ∧ w.heap[br]? = some (partObj bs nd.r ns[nd.r]) := hp nd.r _ (List.getElem?_eq_getElem (by omega))
  rw [show bs.getD nd.r 0 = br by simp [List.getD, hbr]] at hpb
  obtain ⟨i0, hi, hz0, hz1, hz2⟩ := info_parts Try.infoBool
  go_enter Try.func98, Try.ntmps98
  go_wp2_with (at_make; go_must (refine wpList_make_full _ rfl (.tmp 15) (.tmp 15) 104 rfl w.heap.size 4 i0 (.bool false) 1 Try.underlying104 hi hz0 hz1 .i64 .i64 n n n rfl rfl rfl rfl ?m2 ?m3 (Nat.le_refl _) ?_))
  case m2 => rw [hz2]; omega
  case m3 => unfold maxLen; omega
  intro w1 own1 grow1
  have eo : (madeCells #[Value.bool false] n).toList = List.replicate n (.bool false) := toList_madeCells_one _ _
  rw [eo] at own1
  have hb1 : Below w.heap.size w w1 := (Below.refl _ _).grown grow1 (Nat.le_refl _) (fun k h => by cases h)
  have hs1 : w.heap.size < w1.heap.size := (own1.lt _ rfl).2
  have hpb1 : w1.heap[b]? = some (.cells #[.int .u8 (38 : Nat), .pointer (some ⟨bl, 0, none⟩), .pointer (some ⟨br, 0, none⟩), .int .i64 k] 181) := by rw [hb1.block b hbw]; exact hpb
  obtain ⟨p0, p1, p2, _⟩ := part_cells' hpb1
  have HB1 := hid hb1
  have O1 := hid own1
  clear own1 grow1 eo hb1
  go_wp2_with fail
  refine (ihl _ bl (hp.below HB1.out) (hwd.below HB1.out) hbl).mono ?_
  rintro e w2 ⟨gl, fl, rfl, SL, hgl, hRl, hb2⟩
  have hs2 := hb2.size
  have hpb2 : w2.heap[b]? = _ := (hb2.block b (by omega)).trans hpb1
  clear p0 p1 p2
  obtain ⟨p0, p1, p2, _⟩ := part_cells' hpb2
  have HB2 := hid (HB1.out.trans (hb2.mono (by omega)))
  have O2 := hid (O1.out.kept (row := none) ⟨hb2.os, hb2.tape, hb2.output, hb2.size, fun k hk _ => hb2.block k hk⟩ (Or.inr (by simp [Value.ownBlock])))
  have HRl := hid hRl
  have HSL := hid SL
  clear hb2 O1 HB1 hRl SL
  go_wp2_with fail
  refine (ihr _ br (hp.below HB2.out) (hwd.below HB2.out) hbr).mono ?_
  rintro e w3 ⟨gr, fr, rfl, SR, hgr, hRr, hb3⟩
  have hs3 := hb3.size
  have hpb3 : w3.heap[b]? = _ := (hb3.block b (by omega)).trans hpb2
  clear p0 p1 p2
  obtain ⟨p0, p1, p2, _⟩ := part_cells' hpb3
  have HBS := hid (HB2.out.trans (hb3.mono (by omega)))
  have OS := hid (O2.out.kept (row := none) ⟨hb3.os, hb3.tape, hb3.output, hb3.size, fun k hk _ => hb3.block k hk⟩ (Or.inr (by simp [Value.ownBlock])))
  have HRl3 := hid (HRl.out.below hb3)
  have HRr := hid hRr
  have SL := HSL.out
  obtain ⟨f, hfe⟩ : ∃ f : Nat → Bool, f = (fun i => fl i && fr i) := ⟨_, rfl⟩
  have HSF : Hid (∀ i, i < n → (f i = true ↔ sem (lnx n back) (ltOf xs) ns k i)) := hid (by rw [hfe]; exact (by intro i hi; rw [sem_den hn hw]; simp only [den, hop, Nat.reduceEqDiff, if_false, if_true]; have h1 := SL i hi; have h2 := SR i hi; unfold sem at h1 h2; rw [← h1, ← h2]; simp))
  have HFE := hid hfe
  clear hfe
  have hglr := HRl.out.lt
  clear hb3 O2 HB2 HRl SL hRr SR
  have HSS : Hid (w.heap.size < w3.heap.size) := hid (by omega)
  go_wp2_with fail
  clear p0 p1 p2
  have HPB := hid hpb3
  have HWD := hid (hwd.below HBS.out)
  go_loopw [11] (fun i wr => ∃ j : Nat, j ≤ n ∧ i = .int .i64 j ∧ wr.ownsRow w.heap.size 4 1 (.slice (some ⟨w.heap.size, 0, none⟩) n n) n (outTo f n j) ∧ w3.grownBy wr (some w.heap.size)) (fun i _ => n - (intOf i).toNat)
  case atStart => exact ⟨0, Nat.zero_le _, rfl, by rw [outTo_zero]; exact OS.out, World.grownBy.refl _ _⟩
  case round =>
    obtain ⟨j, hj, rfl, own, hgr2⟩ := hrel
    by_cases hlt : j < n
    · have hpr : wr.heap[b]? = _ := (hgr2.block b (by have := HSS.out; omega) (by simp; omega)).trans HPB.out
      obtain ⟨p0, p1, p2, _⟩ := part_cells' hpr
      have q0 := own.frozenAt j
      have q1 : (wr.cell? ⟨w.heap.size, j, none⟩).isSome = true := by
        rw [own.cellAt j (by omega)]
        simp [outTo, hlt]
      obtain ⟨qv, q2⟩ := Option.isSome_iff_exists.1 q1
      have hO := own.stored j (.bool (f j))
      rw [outTo_set] at hO
      have HO := hid hO.1
      have HG := hid (grown_trans hgr2 hO.2)
      clear hO q1 own
      have FV : Hid (f j = (fl j && fr j)) := hid (by rw [HFE.out])
      have c := (grown_cell (o := j) hgr2 HRl3.out.lt (by omega)).trans (HRl3.out.cell j hlt)
      have c2 := (grown_cell (o := j) hgr2 HRr.out.lt (by omega)).trans (HRr.out.cell j hlt)
      generalize fl j = x at *
      generalize fr j = y at *
      clear hgr2 hpr
      cases x <;> cases y
      all_goals
        go_wp2_with fail
        go_roundw
        case rel =>
          have o := HO.out
          have g := HG.out
          rw [FV.out] at g
          exact ⟨j + 1, by omega, by go_num, by rw [FV.out] at o; exact o, g⟩
        case measure => simp [intOf]; omega
    · have hj2 : j = n := by omega
      rw [hj2] at own
      have RD := hid (row_done ns n back xs (k := k) HBS.out hgr2 HSS.out own HSF.out)
      clear own hgr2 hj2
      go_wp2_with fail
      go_ret
      exact RD.out

set_option maxHeartbeats 1600000 in
set_option maxRecDepth 100000 in
theorem row_or (hw : Wf2 ns) (hlx : xs.length = n) (hb : back < n) (hn80 : n ≤ 20000) (h8 : ∀ x ∈ xs, x < 8) (k b : Nat) (nd : Nd) (hn : ns[k]? = some nd) (hop : nd.op = 124) (ihl : RowAt ns bs gw n wcap back xs nd.l) (ihr : RowAt ns bs gw n wcap back xs nd.r) (w : World) (hp : Parts w ns bs) (hwd : Wd w gw n wcap xs) (hbk : bs[k]? = some b) :
    Calls Try.prog 98 #[.pointer (some ⟨b, 0, none⟩), .slice (some ⟨gw, 0, none⟩) n wcap, .int .i64 back] w (RowPost ns n back xs k w) := by
  have hpb : w.heap[b]? = some (.cells #[.int .u8 (124 : Nat), .pointer (some ⟨bs.getD nd.l 0, 0, none⟩), .pointer (some ⟨bs.getD nd.r 0, 0, none⟩), .int .i64 k] 181) := by
    obtain ⟨b', e, hh⟩ := hp k nd hn
    rw [hbk] at e
    cases e
    rw [hh]
    simp [partObj, lptr, rptr, hop, leafB, twoB]
  have hbw := heap_lt hpb
  have hcap := hwd.cap
  have hgw := hwd.lt
  have hlk : nd.l < k := (wf2_class hw hn).2.1 (by rw [hop]; decide)
  have hkl := (List.getElem?_eq_some_iff.1 hn).1
  obtain ⟨bl, hbl, hhl⟩ : ∃ bl, bs[nd.l]? = some bl ∧ w.heap[bl]? = some (partObj bs nd.l ns[nd.l]) := hp nd.l _ (List.getElem?_eq_getElem (by omega))
  rw [show bs.getD nd.l 0 = bl by simp [List.getD, hbl]] at hpb
  have hrk : nd.r < k := (wf2_class hw hn).2.2 (by rw [hop]; decide)
  obtain ⟨br, hbr, hhr⟩ : ∃ br, bs[nd.r]? = some br ∧ w.heap[br]? = some (partObj bs nd.r ns[nd.r]) := hp nd.r _ (List.getElem?_eq_getElem (by omega))
  rw [show bs.getD nd.r 0 = br by simp [List.getD, hbr]] at hpb
  obtain ⟨i0, hi, hz0, hz1, hz2⟩ := info_parts Try.infoBool
  go_enter Try.func98, Try.ntmps98
  go_wp2_with (at_make; go_must (refine wpList_make_full _ rfl (.tmp 15) (.tmp 15) 104 rfl w.heap.size 4 i0 (.bool false) 1 Try.underlying104 hi hz0 hz1 .i64 .i64 n n n rfl rfl rfl rfl ?m2 ?m3 (Nat.le_refl _) ?_))
  case m2 => rw [hz2]; omega
  case m3 => unfold maxLen; omega
  intro w1 own1 grow1
  have eo : (madeCells #[Value.bool false] n).toList = List.replicate n (.bool false) := toList_madeCells_one _ _
  rw [eo] at own1
  have hb1 : Below w.heap.size w w1 := (Below.refl _ _).grown grow1 (Nat.le_refl _) (fun k h => by cases h)
  have hs1 : w.heap.size < w1.heap.size := (own1.lt _ rfl).2
  have hpb1 : w1.heap[b]? = some (.cells #[.int .u8 (124 : Nat), .pointer (some ⟨bl, 0, none⟩), .pointer (some ⟨br, 0, none⟩), .int .i64 k] 181) := by rw [hb1.block b hbw]; exact hpb
  obtain ⟨p0, p1, p2, _⟩ := part_cells' hpb1
  have HB1 := hid hb1
  have O1 := hid own1
  clear own1 grow1 eo hb1
  go_wp2_with fail
  refine (ihl _ bl (hp.below HB1.out) (hwd.below HB1.out) hbl).mono ?_
  rintro e w2 ⟨gl, fl, rfl, SL, hgl, hRl, hb2⟩
  have hs2 := hb2.size
  have hpb2 : w2.heap[b]? = _ := (hb2.block b (by omega)).trans hpb1
  clear p0 p1 p2
  obtain ⟨p0, p1, p2, _⟩ := part_cells' hpb2
  have HB2 := hid (HB1.out.trans (hb2.mono (by omega)))
  have O2 := hid (O1.out.kept (row := none) ⟨hb2.os, hb2.tape, hb2.output, hb2.size, fun k hk _ => hb2.block k hk⟩ (Or.inr (by simp [Value.ownBlock])))
  have HRl := hid hRl
  have HSL := hid SL
  clear hb2 O1 HB1 hRl SL
  go_wp2_with fail
  refine (ihr _ br (hp.below HB2.out) (hwd.below HB2.out) hbr).mono ?_
  rintro e w3 ⟨gr, fr, rfl, SR, hgr, hRr, hb3⟩
  have hs3 := hb3.size
  have hpb3 : w3.heap[b]? = _ := (hb3.block b (by omega)).trans hpb2
  clear p0 p1 p2
  obtain ⟨p0, p1, p2, _⟩ := part_cells' hpb3
  have HBS := hid (HB2.out.trans (hb3.mono (by omega)))
  have OS := hid (O2.out.kept (row := none) ⟨hb3.os, hb3.tape, hb3.output, hb3.size, fun k hk _ => hb3.block k hk⟩ (Or.inr (by simp [Value.ownBlock])))
  have HRl3 := hid (HRl.out.below hb3)
  have HRr := hid hRr
  have SL := HSL.out
  obtain ⟨f, hfe⟩ : ∃ f : Nat → Bool, f = (fun i => fl i || fr i) := ⟨_, rfl⟩
  have HSF : Hid (∀ i, i < n → (f i = true ↔ sem (lnx n back) (ltOf xs) ns k i)) := hid (by rw [hfe]; exact (by intro i hi; rw [sem_den hn hw]; simp only [den, hop, Nat.reduceEqDiff, if_false, if_true]; have h1 := SL i hi; have h2 := SR i hi; unfold sem at h1 h2; rw [← h1, ← h2]; simp))
  have HFE := hid hfe
  clear hfe
  have hglr := HRl.out.lt
  clear hb3 O2 HB2 HRl SL hRr SR
  have HSS : Hid (w.heap.size < w3.heap.size) := hid (by omega)
  go_wp2_with fail
  clear p0 p1 p2
  have HPB := hid hpb3
  have HWD := hid (hwd.below HBS.out)
  go_loopw [11] (fun i wr => ∃ j : Nat, j ≤ n ∧ i = .int .i64 j ∧ wr.ownsRow w.heap.size 4 1 (.slice (some ⟨w.heap.size, 0, none⟩) n n) n (outTo f n j) ∧ w3.grownBy wr (some w.heap.size)) (fun i _ => n - (intOf i).toNat)
  case atStart => exact ⟨0, Nat.zero_le _, rfl, by rw [outTo_zero]; exact OS.out, World.grownBy.refl _ _⟩
  case round =>
    obtain ⟨j, hj, rfl, own, hgr2⟩ := hrel
    by_cases hlt : j < n
    · have hpr : wr.heap[b]? = _ := (hgr2.block b (by have := HSS.out; omega) (by simp; omega)).trans HPB.out
      obtain ⟨p0, p1, p2, _⟩ := part_cells' hpr
      have q0 := own.frozenAt j
      have q1 : (wr.cell? ⟨w.heap.size, j, none⟩).isSome = true := by
        rw [own.cellAt j (by omega)]
        simp [outTo, hlt]
      obtain ⟨qv, q2⟩ := Option.isSome_iff_exists.1 q1
      have hO := own.stored j (.bool (f j))
      rw [outTo_set] at hO
      have HO := hid hO.1
      have HG := hid (grown_trans hgr2 hO.2)
      clear hO q1 own
      have FV : Hid (f j = (fl j || fr j)) := hid (by rw [HFE.out])
      have c := (grown_cell (o := j) hgr2 HRl3.out.lt (by omega)).trans (HRl3.out.cell j hlt)
      have c2 := (grown_cell (o := j) hgr2 HRr.out.lt (by omega)).trans (HRr.out.cell j hlt)
      generalize fl j = x at *
      generalize fr j = y at *
      clear hgr2 hpr
      cases x <;> cases y
      all_goals
        go_wp2_with fail
        go_roundw
        case rel =>
          have o := HO.out
          have g := HG.out
          rw [FV.out] at g
          exact ⟨j + 1, by omega, by go_num, by rw [FV.out] at o; exact o, g⟩
        case measure => simp [intOf]; omega
    · have hj2 : j = n := by omega
      rw [hj2] at own
      have RD := hid (row_done ns n back xs (k := k) HBS.out hgr2 HSS.out own HSF.out)
      clear own hgr2 hj2
      go_wp2_with fail
      go_ret
      exact RD.out

set_option maxHeartbeats 1600000 in
set_option maxRecDepth 100000 in
theorem row_U (hw : Wf2 ns) (hlx : xs.length = n) (hb : back < n) (hn80 : n ≤ 20000) (h8 : ∀ x ∈ xs, x < 8) (k b : Nat) (nd : Nd) (hn : ns[k]? = some nd) (hop : nd.op = 85) (ihl : RowAt ns bs gw n wcap back xs nd.l) (ihr : RowAt ns bs gw n wcap back xs nd.r) (w : World) (hp : Parts w ns bs) (hwd : Wd w gw n wcap xs) (hbk : bs[k]? = some b) :
    Calls Try.prog 98 #[.pointer (some ⟨b, 0, none⟩), .slice (some ⟨gw, 0, none⟩) n wcap, .int .i64 back] w (RowPost ns n back xs k w) := by
  have hpb : w.heap[b]? = some (.cells #[.int .u8 (85 : Nat), .pointer (some ⟨bs.getD nd.l 0, 0, none⟩), .pointer (some ⟨bs.getD nd.r 0, 0, none⟩), .int .i64 k] 181) := by
    obtain ⟨b', e, hh⟩ := hp k nd hn
    rw [hbk] at e
    cases e
    rw [hh]
    simp [partObj, lptr, rptr, hop, leafB, twoB]
  have hbw := heap_lt hpb
  have hcap := hwd.cap
  have hgw := hwd.lt
  have hlk : nd.l < k := (wf2_class hw hn).2.1 (by rw [hop]; decide)
  have hkl := (List.getElem?_eq_some_iff.1 hn).1
  obtain ⟨bl, hbl, hhl⟩ : ∃ bl, bs[nd.l]? = some bl ∧ w.heap[bl]? = some (partObj bs nd.l ns[nd.l]) := hp nd.l _ (List.getElem?_eq_getElem (by omega))
  rw [show bs.getD nd.l 0 = bl by simp [List.getD, hbl]] at hpb
  have hrk : nd.r < k := (wf2_class hw hn).2.2 (by rw [hop]; decide)
  obtain ⟨br, hbr, hhr⟩ : ∃ br, bs[nd.r]? = some br ∧ w.heap[br]? = some (partObj bs nd.r ns[nd.r]) := hp nd.r _ (List.getElem?_eq_getElem (by omega))
  rw [show bs.getD nd.r 0 = br by simp [List.getD, hbr]] at hpb
  obtain ⟨i0, hi, hz0, hz1, hz2⟩ := info_parts Try.infoBool
  go_enter Try.func98, Try.ntmps98
  go_wp2_with (at_make; go_must (refine wpList_make_full _ rfl (.tmp 15) (.tmp 15) 104 rfl w.heap.size 4 i0 (.bool false) 1 Try.underlying104 hi hz0 hz1 .i64 .i64 n n n rfl rfl rfl rfl ?m2 ?m3 (Nat.le_refl _) ?_))
  case m2 => rw [hz2]; omega
  case m3 => unfold maxLen; omega
  intro w1 own1 grow1
  have eo : (madeCells #[Value.bool false] n).toList = List.replicate n (.bool false) := toList_madeCells_one _ _
  rw [eo] at own1
  have hb1 : Below w.heap.size w w1 := (Below.refl _ _).grown grow1 (Nat.le_refl _) (fun k h => by cases h)
  have hs1 : w.heap.size < w1.heap.size := (own1.lt _ rfl).2
  have hpb1 : w1.heap[b]? = some (.cells #[.int .u8 (85 : Nat), .pointer (some ⟨bl, 0, none⟩), .pointer (some ⟨br, 0, none⟩), .int .i64 k] 181) := by rw [hb1.block b hbw]; exact hpb
  obtain ⟨p0, p1, p2, _⟩ := part_cells' hpb1
  have HB1 := hid hb1
  have O1 := hid own1
  clear own1 grow1 eo hb1
  go_wp2_with fail
  refine (ihl _ bl (hp.below HB1.out) (hwd.below HB1.out) hbl).mono ?_
  rintro e w2 ⟨gl, fl, rfl, SL, hgl, hRl, hb2⟩
  have hs2 := hb2.size
  have hpb2 : w2.heap[b]? = _ := (hb2.block b (by omega)).trans hpb1
  clear p0 p1 p2
  obtain ⟨p0, p1, p2, _⟩ := part_cells' hpb2
  have HB2 := hid (HB1.out.trans (hb2.mono (by omega)))
  have O2 := hid (O1.out.kept (row := none) ⟨hb2.os, hb2.tape, hb2.output, hb2.size, fun k hk _ => hb2.block k hk⟩ (Or.inr (by simp [Value.ownBlock])))
  have HRl := hid hRl
  have HSL := hid SL
  clear hb2 O1 HB1 hRl SL
  go_wp2_with fail
  refine (ihr _ br (hp.below HB2.out) (hwd.below HB2.out) hbr).mono ?_
  rintro e w3 ⟨gr, fr, rfl, SR, hgr, hRr, hb3⟩
  have hs3 := hb3.size
  have hpb3 : w3.heap[b]? = _ := (hb3.block b (by omega)).trans hpb2
  clear p0 p1 p2
  obtain ⟨p0, p1, p2, _⟩ := part_cells' hpb3
  have HBS := hid (HB2.out.trans (hb3.mono (by omega)))
  have OS := hid (O2.out.kept (row := none) ⟨hb3.os, hb3.tape, hb3.output, hb3.size, fun k hk _ => hb3.block k hk⟩ (Or.inr (by simp [Value.ownBlock])))
  have HRl3 := hid (HRl.out.below hb3)
  have HRr := hid hRr
  have SL := HSL.out
  obtain ⟨f, hfe⟩ : ∃ f : Nat → Bool, f = (fun i => al 85 fl fr (lnx n back) (n + 1) i) := ⟨_, rfl⟩
  have HSF : Hid (∀ i, i < n → (f i = true ↔ sem (lnx n back) (ltOf xs) ns k i)) := hid (by rw [hfe]; exact (by intro i hi; rw [sem_den hn hw, al_U hb _ _ i hi]; simp only [den, hop, Nat.reduceEqDiff, if_false, if_true]; exact exists_congr fun s => and_congr (SR _ (it_lt hb s i hi)) (forall_congr' fun m => forall_congr' fun _ => SL _ (it_lt hb m i hi))))
  have HFE := hid hfe
  clear hfe
  have hglr := HRl.out.lt
  clear hb3 O2 HB2 HRl SL hRr SR
  have HSS : Hid (w.heap.size < w3.heap.size) := hid (by omega)
  go_wp2_with fail
  clear p0 p1 p2
  have HPB := hid hpb3
  have HWD := hid (hwd.below HBS.out)
  go_loopw [11] (fun i wr => ∃ j : Nat, j ≤ n ∧ i = .int .i64 j ∧ wr.ownsRow w.heap.size 4 1 (.slice (some ⟨w.heap.size, 0, none⟩) n n) n (outTo f n j) ∧ w3.grownBy wr (some w.heap.size)) (fun i _ => n - (intOf i).toNat)
  case atStart => exact ⟨0, Nat.zero_le _, rfl, by rw [outTo_zero]; exact OS.out, World.grownBy.refl _ _⟩
  case round =>
    obtain ⟨j, hj, rfl, own, hgr2⟩ := hrel
    by_cases hlt : j < n
    · have hpr : wr.heap[b]? = _ := (hgr2.block b (by have := HSS.out; omega) (by simp; omega)).trans HPB.out
      obtain ⟨p0, p1, p2, _⟩ := part_cells' hpr
      have q0 := own.frozenAt j
      have q1 : (wr.cell? ⟨w.heap.size, j, none⟩).isSome = true := by
        rw [own.cellAt j (by omega)]
        simp [outTo, hlt]
      obtain ⟨qv, q2⟩ := Option.isSome_iff_exists.1 q1
      have hO := own.stored j (.bool (f j))
      rw [outTo_set] at hO
      have HO := hid hO.1
      have HG := hid (grown_trans hgr2 hO.2)
      clear hO q1 own
      have FV : Hid (f j = al 85 fl fr (lnx n back) (n + 1) j) := hid (by rw [HFE.out])
      have RL := HRl3.out.grown hgr2 (by omega)
      have RR := HRr.out.grown hgr2 (by omega)
      have AL := along_U gl n j back gr fl fr _ RL RR hlt hb hn80
      generalize al 85 fl fr (lnx n back) (n + 1) j = x at *
      clear hgr2 hpr
      go_wp2_with fail
      refine AL.mono ?_
      rintro e w' ⟨rfl, rfl⟩
      clear AL
      go_wp2_with fail
      go_roundw
      case rel =>
        have o := HO.out
        have g := HG.out
        rw [FV.out] at g
        exact ⟨j + 1, by omega, by go_num, by rw [FV.out] at o; exact o, g⟩
      case measure => simp [intOf]; omega
    · have hj2 : j = n := by omega
      rw [hj2] at own
      have RD := hid (row_done ns n back xs (k := k) HBS.out hgr2 HSS.out own HSF.out)
      clear own hgr2 hj2
      go_wp2_with fail
      go_ret
      exact RD.out

set_option maxHeartbeats 1600000 in
set_option maxRecDepth 100000 in
theorem row_R (hw : Wf2 ns) (hlx : xs.length = n) (hb : back < n) (hn80 : n ≤ 20000) (h8 : ∀ x ∈ xs, x < 8) (k b : Nat) (nd : Nd) (hn : ns[k]? = some nd) (hop : nd.op = 82) (ihl : RowAt ns bs gw n wcap back xs nd.l) (ihr : RowAt ns bs gw n wcap back xs nd.r) (w : World) (hp : Parts w ns bs) (hwd : Wd w gw n wcap xs) (hbk : bs[k]? = some b) :
    Calls Try.prog 98 #[.pointer (some ⟨b, 0, none⟩), .slice (some ⟨gw, 0, none⟩) n wcap, .int .i64 back] w (RowPost ns n back xs k w) := by
  have hpb : w.heap[b]? = some (.cells #[.int .u8 (82 : Nat), .pointer (some ⟨bs.getD nd.l 0, 0, none⟩), .pointer (some ⟨bs.getD nd.r 0, 0, none⟩), .int .i64 k] 181) := by
    obtain ⟨b', e, hh⟩ := hp k nd hn
    rw [hbk] at e
    cases e
    rw [hh]
    simp [partObj, lptr, rptr, hop, leafB, twoB]
  have hbw := heap_lt hpb
  have hcap := hwd.cap
  have hgw := hwd.lt
  have hlk : nd.l < k := (wf2_class hw hn).2.1 (by rw [hop]; decide)
  have hkl := (List.getElem?_eq_some_iff.1 hn).1
  obtain ⟨bl, hbl, hhl⟩ : ∃ bl, bs[nd.l]? = some bl ∧ w.heap[bl]? = some (partObj bs nd.l ns[nd.l]) := hp nd.l _ (List.getElem?_eq_getElem (by omega))
  rw [show bs.getD nd.l 0 = bl by simp [List.getD, hbl]] at hpb
  have hrk : nd.r < k := (wf2_class hw hn).2.2 (by rw [hop]; decide)
  obtain ⟨br, hbr, hhr⟩ : ∃ br, bs[nd.r]? = some br ∧ w.heap[br]? = some (partObj bs nd.r ns[nd.r]) := hp nd.r _ (List.getElem?_eq_getElem (by omega))
  rw [show bs.getD nd.r 0 = br by simp [List.getD, hbr]] at hpb
  obtain ⟨i0, hi, hz0, hz1, hz2⟩ := info_parts Try.infoBool
  go_enter Try.func98, Try.ntmps98
  go_wp2_with (at_make; go_must (refine wpList_make_full _ rfl (.tmp 15) (.tmp 15) 104 rfl w.heap.size 4 i0 (.bool false) 1 Try.underlying104 hi hz0 hz1 .i64 .i64 n n n rfl rfl rfl rfl ?m2 ?m3 (Nat.le_refl _) ?_))
  case m2 => rw [hz2]; omega
  case m3 => unfold maxLen; omega
  intro w1 own1 grow1
  have eo : (madeCells #[Value.bool false] n).toList = List.replicate n (.bool false) := toList_madeCells_one _ _
  rw [eo] at own1
  have hb1 : Below w.heap.size w w1 := (Below.refl _ _).grown grow1 (Nat.le_refl _) (fun k h => by cases h)
  have hs1 : w.heap.size < w1.heap.size := (own1.lt _ rfl).2
  have hpb1 : w1.heap[b]? = some (.cells #[.int .u8 (82 : Nat), .pointer (some ⟨bl, 0, none⟩), .pointer (some ⟨br, 0, none⟩), .int .i64 k] 181) := by rw [hb1.block b hbw]; exact hpb
  obtain ⟨p0, p1, p2, _⟩ := part_cells' hpb1
  have HB1 := hid hb1
  have O1 := hid own1
  clear own1 grow1 eo hb1
  go_wp2_with fail
  refine (ihl _ bl (hp.below HB1.out) (hwd.below HB1.out) hbl).mono ?_
  rintro e w2 ⟨gl, fl, rfl, SL, hgl, hRl, hb2⟩
  have hs2 := hb2.size
  have hpb2 : w2.heap[b]? = _ := (hb2.block b (by omega)).trans hpb1
  clear p0 p1 p2
  obtain ⟨p0, p1, p2, _⟩ := part_cells' hpb2
  have HB2 := hid (HB1.out.trans (hb2.mono (by omega)))
  have O2 := hid (O1.out.kept (row := none) ⟨hb2.os, hb2.tape, hb2.output, hb2.size, fun k hk _ => hb2.block k hk⟩ (Or.inr (by simp [Value.ownBlock])))
  have HRl := hid hRl
  have HSL := hid SL
  clear hb2 O1 HB1 hRl SL
  go_wp2_with fail
  refine (ihr _ br (hp.below HB2.out) (hwd.below HB2.out) hbr).mono ?_
  rintro e w3 ⟨gr, fr, rfl, SR, hgr, hRr, hb3⟩
  have hs3 := hb3.size
  have hpb3 : w3.heap[b]? = _ := (hb3.block b (by omega)).trans hpb2
  clear p0 p1 p2
  obtain ⟨p0, p1, p2, _⟩ := part_cells' hpb3
  have HBS := hid (HB2.out.trans (hb3.mono (by omega)))
  have OS := hid (O2.out.kept (row := none) ⟨hb3.os, hb3.tape, hb3.output, hb3.size, fun k hk _ => hb3.block k hk⟩ (Or.inr (by simp [Value.ownBlock])))
  have HRl3 := hid (HRl.out.below hb3)
  have HRr := hid hRr
  have SL := HSL.out
  obtain ⟨f, hfe⟩ : ∃ f : Nat → Bool, f = (fun i => al 82 fl fr (lnx n back) (n + 1) i) := ⟨_, rfl⟩
  have HSF : Hid (∀ i, i < n → (f i = true ↔ sem (lnx n back) (ltOf xs) ns k i)) := hid (by rw [hfe]; exact (by intro i hi; rw [sem_den hn hw, al_R hb _ _ i hi]; simp only [den, hop, Nat.reduceEqDiff, if_false, if_true]; exact forall_congr' fun s => or_congr (SR _ (it_lt hb s i hi)) (exists_congr fun m => and_congr Iff.rfl (SL _ (it_lt hb m i hi)))))
  have HFE := hid hfe
  clear hfe
  have hglr := HRl.out.lt
  clear hb3 O2 HB2 HRl SL hRr SR
  have HSS : Hid (w.heap.size < w3.heap.size) := hid (by omega)
  go_wp2_with fail
  clear p0 p1 p2
  have HPB := hid hpb3
  have HWD := hid (hwd.below HBS.out)
  go_loopw [11] (fun i wr => ∃ j : Nat, j ≤ n ∧ i = .int .i64 j ∧ wr.ownsRow w.heap.size 4 1 (.slice (some ⟨w.heap.size, 0, none⟩) n n) n (outTo f n j) ∧ w3.grownBy wr (some w.heap.size)) (fun i _ => n - (intOf i).toNat)
  case atStart => exact ⟨0, Nat.zero_le _, rfl, by rw [outTo_zero]; exact OS.out, World.grownBy.refl _ _⟩
  case round =>
    obtain ⟨j, hj, rfl, own, hgr2⟩ := hrel
    by_cases hlt : j < n
    · have hpr : wr.heap[b]? = _ := (hgr2.block b (by have := HSS.out; omega) (by simp; omega)).trans HPB.out
      obtain ⟨p0, p1, p2, _⟩ := part_cells' hpr
      have q0 := own.frozenAt j
      have q1 : (wr.cell? ⟨w.heap.size, j, none⟩).isSome = true := by
        rw [own.cellAt j (by omega)]
        simp [outTo, hlt]
      obtain ⟨qv, q2⟩ := Option.isSome_iff_exists.1 q1
      have hO := own.stored j (.bool (f j))
      rw [outTo_set] at hO
      have HO := hid hO.1
      have HG := hid (grown_trans hgr2 hO.2)
      clear hO q1 own
      have FV : Hid (f j = al 82 fl fr (lnx n back) (n + 1) j) := hid (by rw [HFE.out])
      have RL := HRl3.out.grown hgr2 (by omega)
      have RR := HRr.out.grown hgr2 (by omega)
      have AL := along_R gl n j back gr fl fr _ RL RR hlt hb hn80
      generalize al 82 fl fr (lnx n back) (n + 1) j = x at *
      clear hgr2 hpr
      go_wp2_with fail
      refine AL.mono ?_
      rintro e w' ⟨rfl, rfl⟩
      clear AL
      go_wp2_with fail
      go_roundw
      case rel =>
        have o := HO.out
        have g := HG.out
        rw [FV.out] at g
        exact ⟨j + 1, by omega, by go_num, by rw [FV.out] at o; exact o, g⟩
      case measure => simp [intOf]; omega
    · have hj2 : j = n := by omega
      rw [hj2] at own
      have RD := hid (row_done ns n back xs (k := k) HBS.out hgr2 HSS.out own HSF.out)
      clear own hgr2 hj2
      go_wp2_with fail
      go_ret
      exact RD.out
end

end Go.Proofs.Ytjagijohfkffiab

/- The walk of the reference's parse. -/
namespace Go.Proofs.Ytjagijohfkffiab
open Go.RowKit
set_option linter.unusedVariables false

theorem Try.infoPartPtr : (Try.prog.info? 175).map (fun i => (i.zero, i.size, i.bytes)) = some (some (.pointer none), 1, 8) := by kernel_rfl

/-- What the reference's parse leaves. -/
def Rff (o : Option (Nat × List Nd)) (F : Nat) (x : Int) (bs : List Nat) (w : World) (e : Ending) (w' : World) : Prop :=
  (o = none ∧ e = .returned (.tuple #[.pointer none, .int .i64 x, .bool false]) ∧ Below F w w') ∨
  (∃ a' ns' ext P, o = some (a', ns') ∧ e = .returned (.tuple #[.pointer (some ⟨P, 0, none⟩), .int .i64 (a' : Nat), .bool true]) ∧ Fm w' F ns' (bs ++ ext) ∧ (bs ++ ext)[ns'.length - 1]? = some P ∧ (∀ b ∈ ext, w.heap.size ≤ b) ∧ Below F w w' ∧ Kp F w w')

def RparseAt (k F : Nat) (s : ByteArray) : Prop :=
  ∀ (x : Int) (a : Nat) (ns : List Nd) (bs : List Nat) (w : World), x = (a : Int) → Fm w F ns bs → s.size < a + k → a ≤ s.size → ns.length ≤ a → Calls Try.prog 91 #[.pointer (some ⟨F, 0, none⟩), .string s, .int .i64 x] w (Rff (ps k s a ns) F x bs w)

theorem fin_push {W w1 : World} {F : Nat} {ns : List Nd} {bs : List Nat} (hf : Fm W F ns bs) {Q : Obj} {v v' : Value} {n0 : Nat} {xs : List Value} (own : W.ownsRow (F + 1) 175 1 v n0 xs) (hn0 : n0 = ns.length) (hxs : xs = bs.map ptrTo1)
    {P : Nat} (hPF : F < P) (n : Nd) (h1 : leafB n.op = false → n.l < ns.length) (h2 : twoB n.op = true → n.r < ns.length) (hP : W.heap[P]? = some (partObj bs ns.length n))
    (hown : w1.ownsRow (F + 1) 175 1 v' (n0 + 1) (xs ++ [ptrTo1 P])) (hg : (W.alloc Q).grownBy w1 v.ownBlock) :
    ∃ ao' cap', v' = .slice ao' (ns.length + 1) cap' ∧ Fm (w1.setCell ⟨F, 0, none⟩ (.slice ao' (ns.length + 1) cap')) F (ns ++ [n]) (bs ++ [P]) ∧ Kp F W w1 ∧ Below (F + 1) W w1 := by
  subst hn0
  subst hxs
  have hF := hf.ltF
  have hk : Kp F W w1 := (Kp.alloc F W Q).trans (Kp.grown (own.alloc Q) hg)
  have hb : Below (F + 1) W w1 := ((Below.refl _ _).alloc (by omega) _).grown hg (by simp; omega) (fun k h => (own.lt k h).1)
  obtain ⟨ao', cap', hv⟩ : ∃ ao' cap', v' = .slice ao' (ns.length + 1) cap' := by
    rcases hown.2 with ⟨h, h0⟩ | ⟨g, cap', _, h, _⟩
    · omega
    · exact ⟨_, cap', h⟩
  subst hv
  exact ⟨ao', cap', rfl, hf.push hk hb hPF n h1 h2 hP ao' cap' hown, hk, hb⟩

theorem leaf_part {W : World} {ns : List Nd} {bs : List Nat} {P : Nat} {b : Nat} (hb : leafB b = true) (h : W.heap[P]? = some (.cells #[.int .u8 b, .pointer none, .pointer none, .int .i64 ns.length] 181)) : W.heap[P]? = some (partObj bs ns.length ⟨b, 0, 0⟩) := by
  rw [h]
  simp [partObj, lptr, rptr, hb, leaf_not_two hb]

theorem last_snoc {bs : List Nat} {ns : List Nd} {n : Nd} {P : Nat} (h : bs.length = ns.length) : (bs ++ [P])[(ns ++ [n]).length - 1]? = some P := by
  simp [← h]

set_option maxHeartbeats 800000 in
set_option maxRecDepth 100000 in
theorem rparse_leaf (k F : Nat) (s : ByteArray) (hs : s.size ≤ 24) (a : Nat) (ns : List Nd) (bs : List Nat) (w : World) (hf : Fm w F ns bs) (hn : ns.length ≤ a) (hb : leafB (bt s a) = true) :
    Calls Try.prog 91 #[.pointer (some ⟨F, 0, none⟩), .string s, .int .i64 a] w (Rff (ps (k + 1) s a ns) F a bs w) := by
  have hlt := bt_lt (leaf_ne hb)
  have e1 := hid (ps_leaf (k := k) (ns := ns) hb)
  have hb2 : (s[a]'hlt).toNat = bt s a := (bt_in hlt).symm
  obtain ⟨ao, cap, c0, own⟩ := hf.c0
  have f0 := hf.f0
  have hF := hf.ltF
  obtain ⟨i0, hi, hz0, hz1, hz2⟩ := info_parts Try.infoPartPtr
  have hB := leaf_is hb
  have HB := hid hb
  clear hb
  generalize bt s a = b at *
  rcases hB with rfl | rfl | rfl | rfl | rfl
  all_goals
    go_enter Try.func91, Try.ntmps91
    go_wp2_with (at_builtin; refine wpList_append_own _ rfl (.tmp 160) (.tmp 162) 107 rfl (F + 1) 175 i0 (.pointer none) 1 8 Try.underlying107 hi hz0 hz1 hz2 rfl (by decide) _ _ _ rfl ((own.alloc _).alloc _) ⟨w.heap.size + 1, 0, none⟩ 1 1 [ptrTo1 w.heap.size] rfl rfl ?c1 ?c2 ?c3 ?c4 ?c5 ?_)
    case c1 => intro j u hj; match j, hj with | 0, hj => simp at hj; subst hj; simp [Addr.add, ptrTo1]
    case c2 => intro u hu; simp at hu; subst hu; rfl
    case c3 => unfold maxLen; omega
    case c4 => omega
    case c5 => simp; omega
    intro v' w1 hown hgrow _
    obtain ⟨ao', cap', hv, hf1, hk, hbl⟩ := fin_push (hf.alloc _) (own.alloc _) rfl rfl (P := w.heap.size) (by omega) ⟨_, 0, 0⟩ (fun h => absurd HB.out (by rw [h]; decide)) (fun h => absurd (leaf_not_two HB.out) (by rw [h]; decide)) (leaf_part HB.out (heap_alloc_new _ _)) hown hgrow
    subst hv
    have k0 := (hbl.cell (p := ⟨F, 0, none⟩) (Nat.lt_succ_self _)).trans ((World.cell?_alloc_past _ _ _ hF).trans c0)
    have g0 := (hbl.frozen (p := ⟨F, 0, none⟩) (Nat.lt_succ_self _)).trans ((World.frozen?_alloc_past _ _ _ hF).trans f0)
    have HF := hid hf1
    have B1 := hid ((((Below.refl F w).alloc (by omega) _).trans (hbl.mono (Nat.le_succ F))).setCell (p := ⟨F, 0, none⟩) (Nat.le_refl _) (.slice ao' (ns.length + 1) cap'))
    have K1 := hid (((Kp.alloc F w _).trans hk).set (P := F) (Or.inr rfl) 0 (.slice ao' (ns.length + 1) cap'))
    clear hf1 hown hgrow hbl hk c0 f0 own
    go_wp2
    go_ret3
    refine Or.inr ⟨_, _, [w.heap.size], w.heap.size, e1.out, rfl, HF.out, last_snoc hf.len, ?_, B1.out, K1.out⟩
    intro b hb; simp at hb; omega

end Go.Proofs.Ytjagijohfkffiab
