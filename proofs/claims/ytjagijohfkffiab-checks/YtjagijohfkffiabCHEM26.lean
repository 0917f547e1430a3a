import Derived.Test.YtjagijohfkffiabCHEM15

/- The walk of the reference's row, by kinds of parts. -/
namespace Go.Proofs.Ytjagijohfkffiab
open Go.RowKit
set_option linter.unusedVariables false
section
variable (ns : List Nd) (bs : List Nat) (gw n wcap back : Nat) (xs : List Nat)

set_option maxHeartbeats 1600000 in
set_option maxRecDepth 100000 in
theorem row_0 (hw : Wf2 ns) (hlx : xs.length = n) (hb : back < n) (hn80 : n ≤ 20000) (h8 : ∀ x ∈ xs, x < 8) (k b : Nat) (nd : Nd) (hn : ns[k]? = some nd) (hop : nd.op = 48) (w : World) (hp : Parts w ns bs) (hwd : Wd w gw n wcap xs) (hbk : bs[k]? = some b) :
    Calls Try.prog 98 #[.pointer (some ⟨b, 0, none⟩), .slice (some ⟨gw, 0, none⟩) n wcap, .int .i64 back] w (RowPost ns n back xs k w) := by
  have hpb : w.heap[b]? = some (.cells #[.int .u8 (48 : Nat), .pointer (none), .pointer (none), .int .i64 k] 181) := by
    obtain ⟨b', e, hh⟩ := hp k nd hn
    rw [hbk] at e
    cases e
    rw [hh]
    simp [partObj, lptr, rptr, hop, leafB, twoB]
  have hbw := heap_lt hpb
  have hcap := hwd.cap
  have hgw := hwd.lt
  obtain ⟨i0, hi, hz0, hz1, hz2⟩ := info_parts Try.infoBool
  go_enter Try.func98, Try.ntmps98
  go_wp2_with (at_make; go_must (refine wpList_make_full _ rfl (.tmp 15) (.tmp 15) 104 rfl w.heap.size 4 i0 (.bool false) 1 Try.underlying104 hi hz0 hz1 .i64 .i64 n n n rfl rfl rfl rfl ?m2 ?m3 (Nat.le_refl _) ?_))
  case m2 => rw [hz2]; omega
  case m3 => unfold maxLen; omega
  intro w1 own1 grow1
  have eo : (madeCells #[Value.bool false] n).toList = List.replicate n (.bool false) := toList_madeCells_one _ _
  rw [eo] at own1
  have hb1 : Below w.heap.size w w1 := (Below.refl _ _).grown grow1 (Nat.le_refl _) (fun k h => by cases h)
  have hs1 : w.heap.size < w1.heap.size := (own1.lt _ rfl).2
  have hpb1 : w1.heap[b]? = some (.cells #[.int .u8 (48 : Nat), .pointer (none), .pointer (none), .int .i64 k] 181) := by rw [hb1.block b hbw]; exact hpb
  obtain ⟨p0, p1, p2, _⟩ := part_cells' hpb1
  have HB1 := hid hb1
  have O1 := hid own1
  clear own1 grow1 eo hb1
  go_wp2_with fail
  clear p0 p1 p2
  have HBS := HB1
  have HSS := hid hs1
  have HPB := hid hpb1
  have OS := O1
  have HSF := hid (by intro i hi; rw [sem_den hn hw]; simp [den, hop] : ∀ i, i < n → ((fun _ => false) i = true ↔ sem (lnx n back) (ltOf xs) ns k i))
  have HWD := hid (hwd.below HBS.out)
  obtain ⟨f, hfe⟩ : ∃ f : Nat → Bool, f = (fun _ => false) := ⟨_, rfl⟩
  rw [← hfe] at HSF
  have HFE := hid hfe
  clear hfe
  go_loopw [11] (fun i wr => ∃ j : Nat, j ≤ n ∧ i = .int .i64 j ∧ wr.ownsRow w.heap.size 4 1 (.slice (some ⟨w.heap.size, 0, none⟩) n n) n (outTo f n j) ∧ w1.grownBy wr (some w.heap.size)) (fun i _ => n - (intOf i).toNat)
  case atStart => exact ⟨0, Nat.zero_le _, rfl, by rw [outTo_zero]; exact OS.out, World.grownBy.refl _ _⟩
  case round =>
    obtain ⟨j, hj, rfl, own, hgr2⟩ := hrel
    by_cases hlt : j < n
    · have hpr : wr.heap[b]? = _ := (hgr2.block b (by have := HSS.out; omega) (by simp; omega)).trans HPB.out
      obtain ⟨p0, p1, p2, _⟩ := part_cells' hpr
      have q0 := own.frozenAt j
      have q1 : (wr.cell? ⟨w.heap.size, j, none⟩).isSome = true := by
        rw [own.cellAt j (by omega)]
        simp [outTo, hlt]
      obtain ⟨qv, q2⟩ := Option.isSome_iff_exists.1 q1
      have hO := own.stored j (.bool (f j))
      rw [outTo_set] at hO
      have HO := hid hO.1
      have HG := hid (grown_trans hgr2 hO.2)
      clear hO q1 own
      have FV : Hid (f j = false) := hid (by rw [HFE.out])
      clear hgr2 hpr
      go_wp2_with fail
      go_roundw
      case rel =>
        have o := HO.out
        have g := HG.out
        rw [FV.out] at g
        exact ⟨j + 1, by omega, by go_num, by rw [FV.out] at o; exact o, g⟩
      case measure => simp [intOf]; omega
    · have hj2 : j = n := by omega
      rw [hj2] at own
      have RD := hid (row_done ns n back xs (k := k) HBS.out hgr2 HSS.out own HSF.out)
      clear own hgr2 hj2
      go_wp2_with fail
      go_ret
      exact RD.out

set_option maxHeartbeats 1600000 in
set_option maxRecDepth 100000 in
theorem row_1 (hw : Wf2 ns) (hlx : xs.length = n) (hb : back < n) (hn80 : n ≤ 20000) (h8 : ∀ x ∈ xs, x < 8) (k b : Nat) (nd : Nd) (hn : ns[k]? = some nd) (hop : nd.op = 49) (w : World) (hp : Parts w ns bs) (hwd : Wd w gw n wcap xs) (hbk : bs[k]? = some b) :
    Calls Try.prog 98 #[.pointer (some ⟨b, 0, none⟩), .slice (some ⟨gw, 0, none⟩) n wcap, .int .i64 back] w (RowPost ns n back xs k w) := by
  have hpb : w.heap[b]? = some (.cells #[.int .u8 (49 : Nat), .pointer (none), .pointer (none), .int .i64 k] 181) := by
    obtain ⟨b', e, hh⟩ := hp k nd hn
    rw [hbk] at e
    cases e
    rw [hh]
    simp [partObj, lptr, rptr, hop, leafB, twoB]
  have hbw := heap_lt hpb
  have hcap := hwd.cap
  have hgw := hwd.lt
  obtain ⟨i0, hi, hz0, hz1, hz2⟩ := info_parts Try.infoBool
  go_enter Try.func98, Try.ntmps98
  go_wp2_with (at_make; go_must (refine wpList_make_full _ rfl (.tmp 15) (.tmp 15) 104 rfl w.heap.size 4 i0 (.bool false) 1 Try.underlying104 hi hz0 hz1 .i64 .i64 n n n rfl rfl rfl rfl ?m2 ?m3 (Nat.le_refl _) ?_))
  case m2 => rw [hz2]; omega
  case m3 => unfold maxLen; omega
  intro w1 own1 grow1
  have eo : (madeCells #[Value.bool false] n).toList = List.replicate n (.bool false) := toList_madeCells_one _ _
  rw [eo] at own1
  have hb1 : Below w.heap.size w w1 := (Below.refl _ _).grown grow1 (Nat.le_refl _) (fun k h => by cases h)
  have hs1 : w.heap.size < w1.heap.size := (own1.lt _ rfl).2
  have hpb1 : w1.heap[b]? = some (.cells #[.int .u8 (49 : Nat), .pointer (none), .pointer (none), .int .i64 k] 181) := by rw [hb1.block b hbw]; exact hpb
  obtain ⟨p0, p1, p2, _⟩ := part_cells' hpb1
  have HB1 := hid hb1
  have O1 := hid own1
  clear own1 grow1 eo hb1
  go_wp2_with fail
  clear p0 p1 p2
  have HBS := HB1
  have HSS := hid hs1
  have HPB := hid hpb1
  have OS := O1
  have HSF := hid (by intro i hi; rw [sem_den hn hw]; simp [den, hop] : ∀ i, i < n → ((fun _ => true) i = true ↔ sem (lnx n back) (ltOf xs) ns k i))
  have HWD := hid (hwd.below HBS.out)
  obtain ⟨f, hfe⟩ : ∃ f : Nat → Bool, f = (fun _ => true) := ⟨_, rfl⟩
  rw [← hfe] at HSF
  have HFE := hid hfe
  clear hfe
  go_loopw [11] (fun i wr => ∃ j : Nat, j ≤ n ∧ i = .int .i64 j ∧ wr.ownsRow w.heap.size 4 1 (.slice (some ⟨w.heap.size, 0, none⟩) n n) n (outTo f n j) ∧ w1.grownBy wr (some w.heap.size)) (fun i _ => n - (intOf i).toNat)
  case atStart => exact ⟨0, Nat.zero_le _, rfl, by rw [outTo_zero]; exact OS.out, World.grownBy.refl _ _⟩
  case round =>
    obtain ⟨j, hj, rfl, own, hgr2⟩ := hrel
    by_cases hlt : j < n
    · have hpr : wr.heap[b]? = _ := (hgr2.block b (by have := HSS.out; omega) (by simp; omega)).trans HPB.out
      obtain ⟨p0, p1, p2, _⟩ := part_cells' hpr
      have q0 := own.frozenAt j
      have q1 : (wr.cell? ⟨w.heap.size, j, none⟩).isSome = true := by
        rw [own.cellAt j (by omega)]
        simp [outTo, hlt]
      obtain ⟨qv, q2⟩ := Option.isSome_iff_exists.1 q1
      have hO := own.stored j (.bool (f j))
      rw [outTo_set] at hO
      have HO := hid hO.1
      have HG := hid (grown_trans hgr2 hO.2)
      clear hO q1 own
      have FV : Hid (f j = true) := hid (by rw [HFE.out])
      clear hgr2 hpr
      go_wp2_with fail
      go_roundw
      case rel =>
        have o := HO.out
        have g := HG.out
        rw [FV.out] at g
        exact ⟨j + 1, by omega, by go_num, by rw [FV.out] at o; exact o, g⟩
      case measure => simp [intOf]; omega
    · have hj2 : j = n := by omega
      rw [hj2] at own
      have RD := hid (row_done ns n back xs (k := k) HBS.out hgr2 HSS.out own HSF.out)
      clear own hgr2 hj2
      go_wp2_with fail
      go_ret
      exact RD.out

set_option maxHeartbeats 1600000 in
set_option maxRecDepth 100000 in
theorem row_p (hw : Wf2 ns) (hlx : xs.length = n) (hb : back < n) (hn80 : n ≤ 20000) (h8 : ∀ x ∈ xs, x < 8) (k b : Nat) (nd : Nd) (hn : ns[k]? = some nd) (hop : nd.op = 112) (w : World) (hp : Parts w ns bs) (hwd : Wd w gw n wcap xs) (hbk : bs[k]? = some b) :
    Calls Try.prog 98 #[.pointer (some ⟨b, 0, none⟩), .slice (some ⟨gw, 0, none⟩) n wcap, .int .i64 back] w (RowPost ns n back xs k w) := by
  have hpb : w.heap[b]? = some (.cells #[.int .u8 (112 : Nat), .pointer (none), .pointer (none), .int .i64 k] 181) := by
    obtain ⟨b', e, hh⟩ := hp k nd hn
    rw [hbk] at e
    cases e
    rw [hh]
    simp [partObj, lptr, rptr, hop, leafB, twoB]
  have hbw := heap_lt hpb
  have hcap := hwd.cap
  have hgw := hwd.lt
  obtain ⟨i0, hi, hz0, hz1, hz2⟩ := info_parts Try.infoBool
  go_enter Try.func98, Try.ntmps98
  go_wp2_with (at_make; go_must (refine wpList_make_full _ rfl (.tmp 15) (.tmp 15) 104 rfl w.heap.size 4 i0 (.bool false) 1 Try.underlying104 hi hz0 hz1 .i64 .i64 n n n rfl rfl rfl rfl ?m2 ?m3 (Nat.le_refl _) ?_))
  case m2 => rw [hz2]; omega
  case m3 => unfold maxLen; omega
  intro w1 own1 grow1
  have eo : (madeCells #[Value.bool false] n).toList = List.replicate n (.bool false) := toList_madeCells_one _ _
  rw [eo] at own1
  have hb1 : Below w.heap.size w w1 := (Below.refl _ _).grown grow1 (Nat.le_refl _) (fun k h => by cases h)
  have hs1 : w.heap.size < w1.heap.size := (own1.lt _ rfl).2
  have hpb1 : w1.heap[b]? = some (.cells #[.int .u8 (112 : Nat), .pointer (none), .pointer (none), .int .i64 k] 181) := by rw [hb1.block b hbw]; exact hpb
  obtain ⟨p0, p1, p2, _⟩ := part_cells' hpb1
  have HB1 := hid hb1
  have O1 := hid own1
  clear own1 grow1 eo hb1
  go_wp2_with fail
  clear p0 p1 p2
  have HBS := HB1
  have HSS := hid hs1
  have HPB := hid hpb1
  have OS := O1
  have HSF := hid (by intro i hi; rw [sem_den hn hw]; simp [den, hop, saysB] : ∀ i, i < n → ((fun i => saysB (ltOf xs i) 112) i = true ↔ sem (lnx n back) (ltOf xs) ns k i))
  have HWD := hid (hwd.below HBS.out)
  obtain ⟨f, hfe⟩ : ∃ f : Nat → Bool, f = (fun i => saysB (ltOf xs i) 112) := ⟨_, rfl⟩
  rw [← hfe] at HSF
  have HFE := hid hfe
  clear hfe
  go_loopw [11] (fun i wr => ∃ j : Nat, j ≤ n ∧ i = .int .i64 j ∧ wr.ownsRow w.heap.size 4 1 (.slice (some ⟨w.heap.size, 0, none⟩) n n) n (outTo f n j) ∧ w1.grownBy wr (some w.heap.size)) (fun i _ => n - (intOf i).toNat)
  case atStart => exact ⟨0, Nat.zero_le _, rfl, by rw [outTo_zero]; exact OS.out, World.grownBy.refl _ _⟩
  case round =>
    obtain ⟨j, hj, rfl, own, hgr2⟩ := hrel
    by_cases hlt : j < n
    · have hpr : wr.heap[b]? = _ := (hgr2.block b (by have := HSS.out; omega) (by simp; omega)).trans HPB.out
      obtain ⟨p0, p1, p2, _⟩ := part_cells' hpr
      have q0 := own.frozenAt j
      have q1 : (wr.cell? ⟨w.heap.size, j, none⟩).isSome = true := by
        rw [own.cellAt j (by omega)]
        simp [outTo, hlt]
      obtain ⟨qv, q2⟩ := Option.isSome_iff_exists.1 q1
      have hO := own.stored j (.bool (f j))
      rw [outTo_set] at hO
      have HO := hid hO.1
      have HG := hid (grown_trans hgr2 hO.2)
      clear hO q1 own
      have FV : Hid (f j = saysB (ltOf xs j) 112) := hid (by rw [HFE.out])
      have c := (grown_cell (o := j) hgr2 HWD.out.lt (by omega)).trans (HWD.out.cell j hlt)
      have hx8 : ltOf xs j < 8 := h8 _ (by simp [ltOf, List.getD, List.getElem?_eq_getElem (show j < xs.length by omega)])
      generalize ltOf xs j = x at *
      clear hgr2 hpr
      go_wp2_with fail
      go_region_with (go_at_call 94; refine (says_any x 112 _ hx8 (by omega)).mono ?_; rintro e w' ⟨rfl, rfl⟩)
      all_goals
        go_wp2_with fail
        go_roundw
        case rel =>
          have o := HO.out
          have g := HG.out
          rw [FV.out] at g
          exact ⟨j + 1, by omega, by go_num, by rw [FV.out] at o; exact o, grown_drew g⟩
        case measure => simp [intOf]; omega
    · have hj2 : j = n := by omega
      rw [hj2] at own
      have RD := hid (row_done ns n back xs (k := k) HBS.out hgr2 HSS.out own HSF.out)
      clear own hgr2 hj2
      go_wp2_with fail
      go_ret
      exact RD.out

set_option maxHeartbeats 1600000 in
set_option maxRecDepth 100000 in
theorem row_q (hw : Wf2 ns) (hlx : xs.length = n) (hb : back < n) (hn80 : n ≤ 20000) (h8 : ∀ x ∈ xs, x < 8) (k b : Nat) (nd : Nd) (hn : ns[k]? = some nd) (hop : nd.op = 113) (w : World) (hp : Parts w ns bs) (hwd : Wd w gw n wcap xs) (hbk : bs[k]? = some b) :
    Calls Try.prog 98 #[.pointer (some ⟨b, 0, none⟩), .slice (some ⟨gw, 0, none⟩) n wcap, .int .i64 back] w (RowPost ns n back xs k w) := by
  have hpb : w.heap[b]? = some (.cells #[.int .u8 (113 : Nat), .pointer (none), .pointer (none), .int .i64 k] 181) := by
    obtain ⟨b', e, hh⟩ := hp k nd hn
    rw [hbk] at e
    cases e
    rw [hh]
    simp [partObj, lptr, rptr, hop, leafB, twoB]
  have hbw := heap_lt hpb
  have hcap := hwd.cap
  have hgw := hwd.lt
  obtain ⟨i0, hi, hz0, hz1, hz2⟩ := info_parts Try.infoBool
  go_enter Try.func98, Try.ntmps98
  go_wp2_with (at_make; go_must (refine wpList_make_full _ rfl (.tmp 15) (.tmp 15) 104 rfl w.heap.size 4 i0 (.bool false) 1 Try.underlying104 hi hz0 hz1 .i64 .i64 n n n rfl rfl rfl rfl ?m2 ?m3 (Nat.le_refl _) ?_))
  case m2 => rw [hz2]; omega
  case m3 => unfold maxLen; omega
  intro w1 own1 grow1
  have eo : (madeCells #[Value.bool false] n).toList = List.replicate n (.bool false) := toList_madeCells_one _ _
  rw [eo] at own1
  have hb1 : Below w.heap.size w w1 := (Below.refl _ _).grown grow1 (Nat.le_refl _) (fun k h => by cases h)
  have hs1 : w.heap.size < w1.heap.size := (own1.lt _ rfl).2
  have hpb1 : w1.heap[b]? = some (.cells #[.int .u8 (113 : Nat), .pointer (none), .pointer (none), .int .i64 k] 181) := by rw [hb1.block b hbw]; exact hpb
  obtain ⟨p0, p1, p2, _⟩ := part_cells' hpb1
  have HB1 := hid hb1
  have O1 := hid own1
  clear own1 grow1 eo hb1
  go_wp2_with fail
  clear p0 p1 p2
  have HBS := HB1
  have HSS := hid hs1
  have HPB := hid hpb1
  have OS := O1
  have HSF := hid (by intro i hi; rw [sem_den hn hw]; simp [den, hop, saysB] : ∀ i, i < n → ((fun i => saysB (ltOf xs i) 113) i = true ↔ sem (lnx n back) (ltOf xs) ns k i))
  have HWD := hid (hwd.below HBS.out)
  obtain ⟨f, hfe⟩ : ∃ f : Nat → Bool, f = (fun i => saysB (ltOf xs i) 113) := ⟨_, rfl⟩
  rw [← hfe] at HSF
  have HFE := hid hfe
  clear hfe
  go_loopw [11] (fun i wr => ∃ j : Nat, j ≤ n ∧ i = .int .i64 j ∧ wr.ownsRow w.heap.size 4 1 (.slice (some ⟨w.heap.size, 0, none⟩) n n) n (outTo f n j) ∧ w1.grownBy wr (some w.heap.size)) (fun i _ => n - (intOf i).toNat)
  case atStart => exact ⟨0, Nat.zero_le _, rfl, by rw [outTo_zero]; exact OS.out, World.grownBy.refl _ _⟩
  case round =>
    obtain ⟨j, hj, rfl, own, hgr2⟩ := hrel
    by_cases hlt : j < n
    · have hpr : wr.heap[b]? = _ := (hgr2.block b (by have := HSS.out; omega) (by simp; omega)).trans HPB.out
      obtain ⟨p0, p1, p2, _⟩ := part_cells' hpr
      have q0 := own.frozenAt j
      have q1 : (wr.cell? ⟨w.heap.size, j, none⟩).isSome = true := by
        rw [own.cellAt j (by omega)]
        simp [outTo, hlt]
      obtain ⟨qv, q2⟩ := Option.isSome_iff_exists.1 q1
      have hO := own.stored j (.bool (f j))
      rw [outTo_set] at hO
      have HO := hid hO.1
      have HG := hid (grown_trans hgr2 hO.2)
      clear hO q1 own
      have FV : Hid (f j = saysB (ltOf xs j) 113) := hid (by rw [HFE.out])
      have c := (grown_cell (o := j) hgr2 HWD.out.lt (by omega)).trans (HWD.out.cell j hlt)
      have hx8 : ltOf xs j < 8 := h8 _ (by simp [ltOf, List.getD, List.getElem?_eq_getElem (show j < xs.length by omega)])
      generalize ltOf xs j = x at *
      clear hgr2 hpr
      go_wp2_with fail
      go_region_with (go_at_call 94; refine (says_any x 113 _ hx8 (by omega)).mono ?_; rintro e w' ⟨rfl, rfl⟩)
      all_goals
        go_wp2_with fail
        go_roundw
        case rel =>
          have o := HO.out
          have g := HG.out
          rw [FV.out] at g
          exact ⟨j + 1, by omega, by go_num, by rw [FV.out] at o; exact o, grown_drew g⟩
        case measure => simp [intOf]; omega
    · have hj2 : j = n := by omega
      rw [hj2] at own
      have RD := hid (row_done ns n back xs (k := k) HBS.out hgr2 HSS.out own HSF.out)
      clear own hgr2 hj2
      go_wp2_with fail
      go_ret
      exact RD.out

set_option maxHeartbeats 1600000 in
set_option maxRecDepth 100000 in
theorem row_r (hw : Wf2 ns) (hlx : xs.length = n) (hb : back < n) (hn80 : n ≤ 20000) (h8 : ∀ x ∈ xs, x < 8) (k b : Nat) (nd : Nd) (hn : ns[k]? = some nd) (hop : nd.op = 114) (w : World) (hp : Parts w ns bs) (hwd : Wd w gw n wcap xs) (hbk : bs[k]? = some b) :
    Calls Try.prog 98 #[.pointer (some ⟨b, 0, none⟩), .slice (some ⟨gw, 0, none⟩) n wcap, .int .i64 back] w (RowPost ns n back xs k w) := by
  have hpb : w.heap[b]? = some (.cells #[.int .u8 (114 : Nat), .pointer (none), .pointer (none), .int .i64 k] 181) := by
    obtain ⟨b', e, hh⟩ := hp k nd hn
    rw [hbk] at e
    cases e
    rw [hh]
    simp [partObj, lptr, rptr, hop, leafB, twoB]
  have hbw := heap_lt hpb
  have hcap := hwd.cap
  have hgw := hwd.lt
  obtain ⟨i0, hi, hz0, hz1, hz2⟩ := info_parts Try.infoBool
  go_enter Try.func98, Try.ntmps98
  go_wp2_with (at_make; go_must (refine wpList_make_full _ rfl (.tmp 15) (.tmp 15) 104 rfl w.heap.size 4 i0 (.bool false) 1 Try.underlying104 hi hz0 hz1 .i64 .i64 n n n rfl rfl rfl rfl ?m2 ?m3 (Nat.le_refl _) ?_))
  case m2 => rw [hz2]; omega
  case m3 => unfold maxLen; omega
  intro w1 own1 grow1
  have eo : (madeCells #[Value.bool false] n).toList = List.replicate n (.bool false) := toList_madeCells_one _ _
  rw [eo] at own1
  have hb1 : Below w.heap.size w w1 := (Below.refl _ _).grown grow1 (Nat.le_refl _) (fun k h => by cases h)
  have hs1 : w.heap.size < w1.heap.size := (own1.lt _ rfl).2
  have hpb1 : w1.heap[b]? = some (.cells #[.int .u8 (114 : Nat), .pointer (none), .pointer (none), .int .i64 k] 181) := by rw [hb1.block b hbw]; exact hpb
  obtain ⟨p0, p1, p2, _⟩ := part_cells' hpb1
  have HB1 := hid hb1
  have O1 := hid own1
  clear own1 grow1 eo hb1
  go_wp2_with fail
  clear p0 p1 p2
  have HBS := HB1
  have HSS := hid hs1
  have HPB := hid hpb1
  have OS := O1
  have HSF := hid (by intro i hi; rw [sem_den hn hw]; simp [den, hop, saysB] : ∀ i, i < n → ((fun i => saysB (ltOf xs i) 114) i = true ↔ sem (lnx n back) (ltOf xs) ns k i))
  have HWD := hid (hwd.below HBS.out)
  obtain ⟨f, hfe⟩ : ∃ f : Nat → Bool, f = (fun i => saysB (ltOf xs i) 114) := ⟨_, rfl⟩
  rw [← hfe] at HSF
  have HFE := hid hfe
  clear hfe
  go_loopw [11] (fun i wr => ∃ j : Nat, j ≤ n ∧ i = .int .i64 j ∧ wr.ownsRow w.heap.size 4 1 (.slice (some ⟨w.heap.size, 0, none⟩) n n) n (outTo f n j) ∧ w1.grownBy wr (some w.heap.size)) (fun i _ => n - (intOf i).toNat)
  case atStart => exact ⟨0, Nat.zero_le _, rfl, by rw [outTo_zero]; exact OS.out, World.grownBy.refl _ _⟩
  case round =>
    obtain ⟨j, hj, rfl, own, hgr2⟩ := hrel
    by_cases hlt : j < n
    · have hpr : wr.heap[b]? = _ := (hgr2.block b (by have := HSS.out; omega) (by simp; omega)).trans HPB.out
      obtain ⟨p0, p1, p2, _⟩ := part_cells' hpr
      have q0 := own.frozenAt j
      have q1 : (wr.cell? ⟨w.heap.size, j, none⟩).isSome = true := by
        rw [own.cellAt j (by omega)]
        simp [outTo, hlt]
      obtain ⟨qv, q2⟩ := Option.isSome_iff_exists.1 q1
      have hO := own.stored j (.bool (f j))
      rw [outTo_set] at hO
      have HO := hid hO.1
      have HG := hid (grown_trans hgr2 hO.2)
      clear hO q1 own
      have FV : Hid (f j = saysB (ltOf xs j) 114) := hid (by rw [HFE.out])
      have c := (grown_cell (o := j) hgr2 HWD.out.lt (by omega)).trans (HWD.out.cell j hlt)
      have hx8 : ltOf xs j < 8 := h8 _ (by simp [ltOf, List.getD, List.getElem?_eq_getElem (show j < xs.length by omega)])
      generalize ltOf xs j = x at *
      clear hgr2 hpr
      go_wp2_with fail
      go_region_with (go_at_call 94; refine (says_any x 114 _ hx8 (by omega)).mono ?_; rintro e w' ⟨rfl, rfl⟩)
      all_goals
        go_wp2_with fail
        go_roundw
        case rel =>
          have o := HO.out
          have g := HG.out
          rw [FV.out] at g
          exact ⟨j + 1, by omega, by go_num, by rw [FV.out] at o; exact o, grown_drew g⟩
        case measure => simp [intOf]; omega
    · have hj2 : j = n := by omega
      rw [hj2] at own
      have RD := hid (row_done ns n back xs (k := k) HBS.out hgr2 HSS.out own HSF.out)
      clear own hgr2 hj2
      go_wp2_with fail
      go_ret
      exact RD.out
end

end Go.Proofs.Ytjagijohfkffiab
