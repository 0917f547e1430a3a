import Derived.Test.YtjagijohfkffiabCHEM15

/- The walk of the reference's row, by kinds of parts. -/
namespace Go.Proofs.Ytjagijohfkffiab
open Go.RowKit
set_option linter.unusedVariables false
section
variable (ns : List Nd) (bs : List Nat) (gw n wcap back : Nat) (xs : List Nat)

set_option maxHeartbeats 1600000 in
set_option maxRecDepth 100000 in
theorem row_not (hw : Wf2 ns) (hlx : xs.length = n) (hb : back < n) (hn80 : n ≤ 20000) (h8 : ∀ x ∈ xs, x < 8) (k b : Nat) (nd : Nd) (hn : ns[k]? = some nd) (hop : nd.op = 33) (ihl : RowAt ns bs gw n wcap back xs nd.l) (w : World) (hp : Parts w ns bs) (hwd : Wd w gw n wcap xs) (hbk : bs[k]? = some b) :
    Calls Try.prog 98 #[.pointer (some ⟨b, 0, none⟩), .slice (some ⟨gw, 0, none⟩) n wcap, .int .i64 back] w (RowPost ns n back xs k w) := by
  have hpb : w.heap[b]? = some (.cells #[.int .u8 (33 : Nat), .pointer (some ⟨bs.getD nd.l 0, 0, none⟩), .pointer (none), .int .i64 k] 181) := by
    obtain ⟨b', e, hh⟩ := hp k nd hn
    rw [hbk] at e
    cases e
    rw [hh]
    simp [partObj, lptr, rptr, hop, leafB, twoB]
  have hbw := heap_lt hpb
  have hcap := hwd.cap
  have hgw := hwd.lt
  have hlk : nd.l < k := (wf2_class hw hn).2.1 (by rw [hop]; decide)
  have hkl := (List.getElem?_eq_some_iff.1 hn).1
  obtain ⟨bl, hbl, hhl⟩ : ∃ bl, bs[nd.l]? = some bl ∧ w.heap[bl]? = some (partObj bs nd.l ns[nd.l]) := hp nd.l _ (List.getElem?_eq_getElem (by omega))
  rw [show bs.getD nd.l 0 = bl by simp [List.getD, hbl]] at hpb
  obtain ⟨i0, hi, hz0, hz1, hz2⟩ := info_parts Try.infoBool
  go_enter Try.func98, Try.ntmps98
  go_wp2_with (at_make; go_must (refine wpList_make_full _ rfl (.tmp 15) (.tmp 15) 104 rfl w.heap.size 4 i0 (.bool false) 1 Try.underlying104 hi hz0 hz1 .i64 .i64 n n n rfl rfl rfl rfl ?m2 ?m3 (Nat.le_refl _) ?_))
  case m2 => rw [hz2]; omega
  case m3 => unfold maxLen; omega
  intro w1 own1 grow1
  have eo : (madeCells #[Value.bool false] n).toList = List.replicate n (.bool false) := toList_madeCells_one _ _
  rw [eo] at own1
  have hb1 : Below w.heap.size w w1 := (Below.refl _ _).grown grow1 (Nat.le_refl _) (fun k h => by cases h)
  have hs1 : w.heap.size < w1.heap.size := (own1.lt _ rfl).2
  have hpb1 : w1.heap[b]? = some (.cells #[.int .u8 (33 : Nat), .pointer (some ⟨bl, 0, none⟩), .pointer (none), .int .i64 k] 181) := by rw [hb1.block b hbw]; exact hpb
  obtain ⟨p0, p1, p2, _⟩ := part_cells' hpb1
  have HB1 := hid hb1
  have O1 := hid own1
  clear own1 grow1 eo hb1
  go_wp2_with fail
  refine (ihl _ bl (hp.below HB1.out) (hwd.below HB1.out) hbl).mono ?_
  rintro e w2 ⟨gl, fl, rfl, SL, hgl, hRl, hb2⟩
  have hs2 := hb2.size
  have hpb2 : w2.heap[b]? = _ := (hb2.block b (by omega)).trans hpb1
  clear p0 p1 p2
  obtain ⟨p0, p1, p2, _⟩ := part_cells' hpb2
  have HB2 := hid (HB1.out.trans (hb2.mono (by omega)))
  have O2 := hid (O1.out.kept (row := none) ⟨hb2.os, hb2.tape, hb2.output, hb2.size, fun k hk _ => hb2.block k hk⟩ (Or.inr (by simp [Value.ownBlock])))
  have HRl := hid hRl
  have HSL := hid SL
  clear hb2 O1 HB1 hRl SL
  go_wp2_with fail
  clear p0 p1 p2
  have HBS := HB2
  have HSS : Hid (w.heap.size < w2.heap.size) := hid (by omega)
  have HPB := hid hpb2
  have OS := O2
  have SL := HSL.out
  have HSF := hid (by intro i hi; rw [sem_den hn hw]; simp only [den, hop, Nat.reduceEqDiff, if_false, if_true]; have := SL i hi; unfold sem at this; rw [← this]; simp : ∀ i, i < n → ((fun i => !fl i) i = true ↔ sem (lnx n back) (ltOf xs) ns k i))
  clear SL
  have HWD := hid (hwd.below HBS.out)
  obtain ⟨f, hfe⟩ : ∃ f : Nat → Bool, f = (fun i => !fl i) := ⟨_, rfl⟩
  rw [← hfe] at HSF
  have HFE := hid hfe
  clear hfe
  go_loopw [11] (fun i wr => ∃ j : Nat, j ≤ n ∧ i = .int .i64 j ∧ wr.ownsRow w.heap.size 4 1 (.slice (some ⟨w.heap.size, 0, none⟩) n n) n (outTo f n j) ∧ w2.grownBy wr (some w.heap.size)) (fun i _ => n - (intOf i).toNat)
  case atStart => exact ⟨0, Nat.zero_le _, rfl, by rw [outTo_zero]; exact OS.out, World.grownBy.refl _ _⟩
  case round =>
    obtain ⟨j, hj, rfl, own, hgr2⟩ := hrel
    by_cases hlt : j < n
    · have hpr : wr.heap[b]? = _ := (hgr2.block b (by have := HSS.out; omega) (by simp; omega)).trans HPB.out
      obtain ⟨p0, p1, p2, _⟩ := part_cells' hpr
      have q0 := own.frozenAt j
      have q1 : (wr.cell? ⟨w.heap.size, j, none⟩).isSome = true := by
        rw [own.cellAt j (by omega)]
        simp [outTo, hlt]
      obtain ⟨qv, q2⟩ := Option.isSome_iff_exists.1 q1
      have hO := own.stored j (.bool (f j))
      rw [outTo_set] at hO
      have HO := hid hO.1
      have HG := hid (grown_trans hgr2 hO.2)
      clear hO q1 own
      have FV : Hid (f j = !fl j) := hid (by rw [HFE.out])
      have c := (grown_cell (o := j) hgr2 HRl.out.lt (by omega)).trans (HRl.out.cell j hlt)
      generalize fl j = x at *
      clear hgr2 hpr
      go_wp2_with fail
      go_roundw
      case rel =>
        have o := HO.out
        have g := HG.out
        rw [FV.out] at g
        exact ⟨j + 1, by omega, by go_num, by rw [FV.out] at o; exact o, g⟩
      case measure => simp [intOf]; omega
    · have hj2 : j = n := by omega
      rw [hj2] at own
      have RD := hid (row_done ns n back xs (k := k) HBS.out hgr2 HSS.out own HSF.out)
      clear own hgr2 hj2
      go_wp2_with fail
      go_ret
      exact RD.out

set_option maxHeartbeats 1600000 in
set_option maxRecDepth 100000 in
theorem row_X (hw : Wf2 ns) (hlx : xs.length = n) (hb : back < n) (hn80 : n ≤ 20000) (h8 : ∀ x ∈ xs, x < 8) (k b : Nat) (nd : Nd) (hn : ns[k]? = some nd) (hop : nd.op = 88) (ihl : RowAt ns bs gw n wcap back xs nd.l) (w : World) (hp : Parts w ns bs) (hwd : Wd w gw n wcap xs) (hbk : bs[k]? = some b) :
    Calls Try.prog 98 #[.pointer (some ⟨b, 0, none⟩), .slice (some ⟨gw, 0, none⟩) n wcap, .int .i64 back] w (RowPost ns n back xs k w) := by
  have hpb : w.heap[b]? = some (.cells #[.int .u8 (88 : Nat), .pointer (some ⟨bs.getD nd.l 0, 0, none⟩), .pointer (none), .int .i64 k] 181) := by
    obtain ⟨b', e, hh⟩ := hp k nd hn
    rw [hbk] at e
    cases e
    rw [hh]
    simp [partObj, lptr, rptr, hop, leafB, twoB]
  have hbw := heap_lt hpb
  have hcap := hwd.cap
  have hgw := hwd.lt
  have hlk : nd.l < k := (wf2_class hw hn).2.1 (by rw [hop]; decide)
  have hkl := (List.getElem?_eq_some_iff.1 hn).1
  obtain ⟨bl, hbl, hhl⟩ : ∃ bl, bs[nd.l]? = some bl ∧ w.heap[bl]? = some (partObj bs nd.l ns[nd.l]) := hp nd.l _ (List.getElem?_eq_getElem (by omega))
  rw [show bs.getD nd.l 0 = bl by simp [List.getD, hbl]] at hpb
  obtain ⟨i0, hi, hz0, hz1, hz2⟩ := info_parts Try.infoBool
  go_enter Try.func98, Try.ntmps98
  go_wp2_with (at_make; go_must (refine wpList_make_full _ rfl (.tmp 15) (.tmp 15) 104 rfl w.heap.size 4 i0 (.bool false) 1 Try.underlying104 hi hz0 hz1 .i64 .i64 n n n rfl rfl rfl rfl ?m2 ?m3 (Nat.le_refl _) ?_))
  case m2 => rw [hz2]; omega
  case m3 => unfold maxLen; omega
  intro w1 own1 grow1
  have eo : (madeCells #[Value.bool false] n).toList = List.replicate n (.bool false) := toList_madeCells_one _ _
  rw [eo] at own1
  have hb1 : Below w.heap.size w w1 := (Below.refl _ _).grown grow1 (Nat.le_refl _) (fun k h => by cases h)
  have hs1 : w.heap.size < w1.heap.size := (own1.lt _ rfl).2
  have hpb1 : w1.heap[b]? = some (.cells #[.int .u8 (88 : Nat), .pointer (some ⟨bl, 0, none⟩), .pointer (none), .int .i64 k] 181) := by rw [hb1.block b hbw]; exact hpb
  obtain ⟨p0, p1, p2, _⟩ := part_cells' hpb1
  have HB1 := hid hb1
  have O1 := hid own1
  clear own1 grow1 eo hb1
  go_wp2_with fail
  refine (ihl _ bl (hp.below HB1.out) (hwd.below HB1.out) hbl).mono ?_
  rintro e w2 ⟨gl, fl, rfl, SL, hgl, hRl, hb2⟩
  have hs2 := hb2.size
  have hpb2 : w2.heap[b]? = _ := (hb2.block b (by omega)).trans hpb1
  clear p0 p1 p2
  obtain ⟨p0, p1, p2, _⟩ := part_cells' hpb2
  have HB2 := hid (HB1.out.trans (hb2.mono (by omega)))
  have O2 := hid (O1.out.kept (row := none) ⟨hb2.os, hb2.tape, hb2.output, hb2.size, fun k hk _ => hb2.block k hk⟩ (Or.inr (by simp [Value.ownBlock])))
  have HRl := hid hRl
  have HSL := hid SL
  clear hb2 O1 HB1 hRl SL
  go_wp2_with fail
  clear p0 p1 p2
  have HBS := HB2
  have HSS : Hid (w.heap.size < w2.heap.size) := hid (by omega)
  have HPB := hid hpb2
  have OS := O2
  have SL := HSL.out
  have HSF := hid (by intro i hi; rw [sem_den hn hw]; simp only [den, hop, Nat.reduceEqDiff, if_false, if_true]; exact SL _ (lnx_lt hb) : ∀ i, i < n → ((fun i => fl (lnx n back i)) i = true ↔ sem (lnx n back) (ltOf xs) ns k i))
  clear SL
  have HWD := hid (hwd.below HBS.out)
  obtain ⟨f, hfe⟩ : ∃ f : Nat → Bool, f = (fun i => fl (lnx n back i)) := ⟨_, rfl⟩
  rw [← hfe] at HSF
  have HFE := hid hfe
  clear hfe
  go_loopw [11] (fun i wr => ∃ j : Nat, j ≤ n ∧ i = .int .i64 j ∧ wr.ownsRow w.heap.size 4 1 (.slice (some ⟨w.heap.size, 0, none⟩) n n) n (outTo f n j) ∧ w2.grownBy wr (some w.heap.size)) (fun i _ => n - (intOf i).toNat)
  case atStart => exact ⟨0, Nat.zero_le _, rfl, by rw [outTo_zero]; exact OS.out, World.grownBy.refl _ _⟩
  case round =>
    obtain ⟨j, hj, rfl, own, hgr2⟩ := hrel
    by_cases hlt : j < n
    · have hpr : wr.heap[b]? = _ := (hgr2.block b (by have := HSS.out; omega) (by simp; omega)).trans HPB.out
      obtain ⟨p0, p1, p2, _⟩ := part_cells' hpr
      have q0 := own.frozenAt j
      have q1 : (wr.cell? ⟨w.heap.size, j, none⟩).isSome = true := by
        rw [own.cellAt j (by omega)]
        simp [outTo, hlt]
      obtain ⟨qv, q2⟩ := Option.isSome_iff_exists.1 q1
      have hO := own.stored j (.bool (f j))
      rw [outTo_set] at hO
      have HO := hid hO.1
      have HG := hid (grown_trans hgr2 hO.2)
      clear hO q1 own
      clear hpr
      by_cases he : j + 1 = n
      · have FV : Hid (f j = fl back) := hid (by rw [HFE.out]; show fl (lnx n back j) = _; unfold lnx; rw [if_neg (by omega)])
        have c := (grown_cell (o := back) hgr2 HRl.out.lt (by omega)).trans (HRl.out.cell back hb)
        have ke : ((j : Int) + 1 == (n : Int)) = true := beq_iff_eq.2 (by omega)
        generalize fl back = x at *
        clear hgr2 he
        go_wp2_with fail
        go_roundw
        case rel =>
          have o := HO.out
          have g := HG.out
          rw [FV.out] at g
          exact ⟨j + 1, by omega, by go_num, by rw [FV.out] at o; exact o, g⟩
        case measure => simp [intOf]; omega
      · have FV : Hid (f j = fl (j + 1)) := hid (by rw [HFE.out]; show fl (lnx n back j) = _; unfold lnx; rw [if_pos (by omega)])
        have c := (grown_cell (o := j + 1) hgr2 HRl.out.lt (by omega)).trans (HRl.out.cell (j + 1) (by omega))
        have ke : ((j : Int) + 1 == (n : Int)) = false := beq_eq_false_iff_ne.2 (by omega)
        generalize fl (j + 1) = x at *
        have he2 : j + 1 < n := by omega
        clear hgr2 he
        go_wp2_with fail
        go_roundw
        case rel =>
          have o := HO.out
          have g := HG.out
          rw [FV.out] at g
          exact ⟨j + 1, by omega, by go_num, by rw [FV.out] at o; exact o, g⟩
        case measure => simp [intOf]; omega
    · have hj2 : j = n := by omega
      rw [hj2] at own
      have RD := hid (row_done ns n back xs (k := k) HBS.out hgr2 HSS.out own HSF.out)
      clear own hgr2 hj2
      go_wp2_with fail
      go_ret
      exact RD.out

set_option maxHeartbeats 1600000 in
set_option maxRecDepth 100000 in
theorem row_F (hw : Wf2 ns) (hlx : xs.length = n) (hb : back < n) (hn80 : n ≤ 20000) (h8 : ∀ x ∈ xs, x < 8) (k b : Nat) (nd : Nd) (hn : ns[k]? = some nd) (hop : nd.op = 70) (ihl : RowAt ns bs gw n wcap back xs nd.l) (w : World) (hp : Parts w ns bs) (hwd : Wd w gw n wcap xs) (hbk : bs[k]? = some b) :
    Calls Try.prog 98 #[.pointer (some ⟨b, 0, none⟩), .slice (some ⟨gw, 0, none⟩) n wcap, .int .i64 back] w (RowPost ns n back xs k w) := by
  have hpb : w.heap[b]? = some (.cells #[.int .u8 (70 : Nat), .pointer (some ⟨bs.getD nd.l 0, 0, none⟩), .pointer (none), .int .i64 k] 181) := by
    obtain ⟨b', e, hh⟩ := hp k nd hn
    rw [hbk] at e
    cases e
    rw [hh]
    simp [partObj, lptr, rptr, hop, leafB, twoB]
  have hbw := heap_lt hpb
  have hcap := hwd.cap
  have hgw := hwd.lt
  have hlk : nd.l < k := (wf2_class hw hn).2.1 (by rw [hop]; decide)
  have hkl := (List.getElem?_eq_some_iff.1 hn).1
  obtain ⟨bl, hbl, hhl⟩ : ∃ bl, bs[nd.l]? = some bl ∧ w.heap[bl]? = some (partObj bs nd.l ns[nd.l]) := hp nd.l _ (List.getElem?_eq_getElem (by omega))
  rw [show bs.getD nd.l 0 = bl by simp [List.getD, hbl]] at hpb
  obtain ⟨i0, hi, hz0, hz1, hz2⟩ := info_parts Try.infoBool
  go_enter Try.func98, Try.ntmps98
  go_wp2_with (at_make; go_must (refine wpList_make_full _ rfl (.tmp 15) (.tmp 15) 104 rfl w.heap.size 4 i0 (.bool false) 1 Try.underlying104 hi hz0 hz1 .i64 .i64 n n n rfl rfl rfl rfl ?m2 ?m3 (Nat.le_refl _) ?_))
  case m2 => rw [hz2]; omega
  case m3 => unfold maxLen; omega
  intro w1 own1 grow1
  have eo : (madeCells #[Value.bool false] n).toList = List.replicate n (.bool false) := toList_madeCells_one _ _
  rw [eo] at own1
  have hb1 : Below w.heap.size w w1 := (Below.refl _ _).grown grow1 (Nat.le_refl _) (fun k h => by cases h)
  have hs1 : w.heap.size < w1.heap.size := (own1.lt _ rfl).2
  have hpb1 : w1.heap[b]? = some (.cells #[.int .u8 (70 : Nat), .pointer (some ⟨bl, 0, none⟩), .pointer (none), .int .i64 k] 181) := by rw [hb1.block b hbw]; exact hpb
  obtain ⟨p0, p1, p2, _⟩ := part_cells' hpb1
  have HB1 := hid hb1
  have O1 := hid own1
  clear own1 grow1 eo hb1
  go_wp2_with fail
  refine (ihl _ bl (hp.below HB1.out) (hwd.below HB1.out) hbl).mono ?_
  rintro e w2 ⟨gl, fl, rfl, SL, hgl, hRl, hb2⟩
  have hs2 := hb2.size
  have hpb2 : w2.heap[b]? = _ := (hb2.block b (by omega)).trans hpb1
  clear p0 p1 p2
  obtain ⟨p0, p1, p2, _⟩ := part_cells' hpb2
  have HB2 := hid (HB1.out.trans (hb2.mono (by omega)))
  have O2 := hid (O1.out.kept (row := none) ⟨hb2.os, hb2.tape, hb2.output, hb2.size, fun k hk _ => hb2.block k hk⟩ (Or.inr (by simp [Value.ownBlock])))
  have HRl := hid hRl
  have HSL := hid SL
  clear hb2 O1 HB1 hRl SL
  go_wp2_with fail
  clear p0 p1 p2
  have HBS := HB2
  have HSS : Hid (w.heap.size < w2.heap.size) := hid (by omega)
  have HPB := hid hpb2
  have OS := O2
  have SL := HSL.out
  have HSF := hid (by intro i hi; rw [sem_den hn hw, al_F hb _ _ i hi]; simp only [den, hop, Nat.reduceEqDiff, if_false, if_true]; exact exists_congr fun s => SL _ (it_lt hb s i hi) : ∀ i, i < n → ((fun i => al 70 fl fl (lnx n back) (n + 1) i) i = true ↔ sem (lnx n back) (ltOf xs) ns k i))
  clear SL
  have HWD := hid (hwd.below HBS.out)
  obtain ⟨f, hfe⟩ : ∃ f : Nat → Bool, f = (fun i => al 70 fl fl (lnx n back) (n + 1) i) := ⟨_, rfl⟩
  rw [← hfe] at HSF
  have HFE := hid hfe
  clear hfe
  go_loopw [11] (fun i wr => ∃ j : Nat, j ≤ n ∧ i = .int .i64 j ∧ wr.ownsRow w.heap.size 4 1 (.slice (some ⟨w.heap.size, 0, none⟩) n n) n (outTo f n j) ∧ w2.grownBy wr (some w.heap.size)) (fun i _ => n - (intOf i).toNat)
  case atStart => exact ⟨0, Nat.zero_le _, rfl, by rw [outTo_zero]; exact OS.out, World.grownBy.refl _ _⟩
  case round =>
    obtain ⟨j, hj, rfl, own, hgr2⟩ := hrel
    by_cases hlt : j < n
    · have hpr : wr.heap[b]? = _ := (hgr2.block b (by have := HSS.out; omega) (by simp; omega)).trans HPB.out
      obtain ⟨p0, p1, p2, _⟩ := part_cells' hpr
      have q0 := own.frozenAt j
      have q1 : (wr.cell? ⟨w.heap.size, j, none⟩).isSome = true := by
        rw [own.cellAt j (by omega)]
        simp [outTo, hlt]
      obtain ⟨qv, q2⟩ := Option.isSome_iff_exists.1 q1
      have hO := own.stored j (.bool (f j))
      rw [outTo_set] at hO
      have HO := hid hO.1
      have HG := hid (grown_trans hgr2 hO.2)
      clear hO q1 own
      have FV : Hid (f j = al 70 fl fl (lnx n back) (n + 1) j) := hid (by rw [HFE.out])
      have RL := HRl.out.grown hgr2 (by omega)
      have AL := along_F gl n j back (.slice none 0 0) fl fl _ RL hlt hb hn80
      generalize al 70 fl fl (lnx n back) (n + 1) j = x at *
      clear hgr2 hpr
      go_wp2_with fail
      refine AL.mono ?_
      rintro e w' ⟨rfl, rfl⟩
      clear AL
      go_wp2_with fail
      go_roundw
      case rel =>
        have o := HO.out
        have g := HG.out
        rw [FV.out] at g
        exact ⟨j + 1, by omega, by go_num, by rw [FV.out] at o; exact o, g⟩
      case measure => simp [intOf]; omega
    · have hj2 : j = n := by omega
      rw [hj2] at own
      have RD := hid (row_done ns n back xs (k := k) HBS.out hgr2 HSS.out own HSF.out)
      clear own hgr2 hj2
      go_wp2_with fail
      go_ret
      exact RD.out

set_option maxHeartbeats 1600000 in
set_option maxRecDepth 100000 in
theorem row_G (hw : Wf2 ns) (hlx : xs.length = n) (hb : back < n) (hn80 : n ≤ 20000) (h8 : ∀ x ∈ xs, x < 8) (k b : Nat) (nd : Nd) (hn : ns[k]? = some nd) (hop : nd.op = 71) (ihl : RowAt ns bs gw n wcap back xs nd.l) (w : World) (hp : Parts w ns bs) (hwd : Wd w gw n wcap xs) (hbk : bs[k]? = some b) :
    Calls Try.prog 98 #[.pointer (some ⟨b, 0, none⟩), .slice (some ⟨gw, 0, none⟩) n wcap, .int .i64 back] w (RowPost ns n back xs k w) := by
  have hpb : w.heap[b]? = some (.cells #[.int .u8 (71 : Nat), .pointer (some ⟨bs.getD nd.l 0, 0, none⟩), .pointer (none), .int .i64 k] 181) := by
    obtain ⟨b', e, hh⟩ := hp k nd hn
    rw [hbk] at e
    cases e
    rw [hh]
    simp [partObj, lptr, rptr, hop, leafB, twoB]
  have hbw := heap_lt hpb
  have hcap := hwd.cap
  have hgw := hwd.lt
  have hlk : nd.l < k := (wf2_class hw hn).2.1 (by rw [hop]; decide)
  have hkl := (List.getElem?_eq_some_iff.1 hn).1
  obtain ⟨bl, hbl, hhl⟩ : ∃ bl, bs[nd.l]? = some bl ∧ w.heap[bl]? = some (partObj bs nd.l ns[nd.l]) := hp nd.l _ (List.getElem?_eq_getElem (by omega))
  rw [show bs.getD nd.l 0 = bl by simp [List.getD, hbl]] at hpb
  obtain ⟨i0, hi, hz0, hz1, hz2⟩ := info_parts Try.infoBool
  go_enter Try.func98, Try.ntmps98
  go_wp2_with (at_make; go_must (refine wpList_make_full _ rfl (.tmp 15) (.tmp 15) 104 rfl w.heap.size 4 i0 (.bool false) 1 Try.underlying104 hi hz0 hz1 .i64 .i64 n n n rfl rfl rfl rfl ?m2 ?m3 (Nat.le_refl _) ?_))
  case m2 => rw [hz2]; omega
  case m3 => unfold maxLen; omega
  intro w1 own1 grow1
  have eo : (madeCells #[Value.bool false] n).toList = List.replicate n (.bool false) := toList_madeCells_one _ _
  rw [eo] at own1
  have hb1 : Below w.heap.size w w1 := (Below.refl _ _).grown grow1 (Nat.le_refl _) (fun k h => by cases h)
  have hs1 : w.heap.size < w1.heap.size := (own1.lt _ rfl).2
  have hpb1 : w1.heap[b]? = some (.cells #[.int .u8 (71 : Nat), .pointer (some ⟨bl, 0, none⟩), .pointer (none), .int .i64 k] 181) := by rw [hb1.block b hbw]; exact hpb
  obtain ⟨p0, p1, p2, _⟩ := part_cells' hpb1
  have HB1 := hid hb1
  have O1 := hid own1
  clear own1 grow1 eo hb1
  go_wp2_with fail
  refine (ihl _ bl (hp.below HB1.out) (hwd.below HB1.out) hbl).mono ?_
  rintro e w2 ⟨gl, fl, rfl, SL, hgl, hRl, hb2⟩
  have hs2 := hb2.size
  have hpb2 : w2.heap[b]? = _ := (hb2.block b (by omega)).trans hpb1
  clear p0 p1 p2
  obtain ⟨p0, p1, p2, _⟩ := part_cells' hpb2
  have HB2 := hid (HB1.out.trans (hb2.mono (by omega)))
  have O2 := hid (O1.out.kept (row := none) ⟨hb2.os, hb2.tape, hb2.output, hb2.size, fun k hk _ => hb2.block k hk⟩ (Or.inr (by simp [Value.ownBlock])))
  have HRl := hid hRl
  have HSL := hid SL
  clear hb2 O1 HB1 hRl SL
  go_wp2_with fail
  clear p0 p1 p2
  have HBS := HB2
  have HSS : Hid (w.heap.size < w2.heap.size) := hid (by omega)
  have HPB := hid hpb2
  have OS := O2
  have SL := HSL.out
  have HSF := hid (by intro i hi; rw [sem_den hn hw, al_G hb _ _ i hi]; simp only [den, hop, Nat.reduceEqDiff, if_false, if_true]; exact forall_congr' fun s => SL _ (it_lt hb s i hi) : ∀ i, i < n → ((fun i => al 71 fl fl (lnx n back) (n + 1) i) i = true ↔ sem (lnx n back) (ltOf xs) ns k i))
  clear SL
  have HWD := hid (hwd.below HBS.out)
  obtain ⟨f, hfe⟩ : ∃ f : Nat → Bool, f = (fun i => al 71 fl fl (lnx n back) (n + 1) i) := ⟨_, rfl⟩
  rw [← hfe] at HSF
  have HFE := hid hfe
  clear hfe
  go_loopw [11] (fun i wr => ∃ j : Nat, j ≤ n ∧ i = .int .i64 j ∧ wr.ownsRow w.heap.size 4 1 (.slice (some ⟨w.heap.size, 0, none⟩) n n) n (outTo f n j) ∧ w2.grownBy wr (some w.heap.size)) (fun i _ => n - (intOf i).toNat)
  case atStart => exact ⟨0, Nat.zero_le _, rfl, by rw [outTo_zero]; exact OS.out, World.grownBy.refl _ _⟩
  case round =>
    obtain ⟨j, hj, rfl, own, hgr2⟩ := hrel
    by_cases hlt : j < n
    · have hpr : wr.heap[b]? = _ := (hgr2.block b (by have := HSS.out; omega) (by simp; omega)).trans HPB.out
      obtain ⟨p0, p1, p2, _⟩ := part_cells' hpr
      have q0 := own.frozenAt j
      have q1 : (wr.cell? ⟨w.heap.size, j, none⟩).isSome = true := by
        rw [own.cellAt j (by omega)]
        simp [outTo, hlt]
      obtain ⟨qv, q2⟩ := Option.isSome_iff_exists.1 q1
      have hO := own.stored j (.bool (f j))
      rw [outTo_set] at hO
      have HO := hid hO.1
      have HG := hid (grown_trans hgr2 hO.2)
      clear hO q1 own
      have FV : Hid (f j = al 71 fl fl (lnx n back) (n + 1) j) := hid (by rw [HFE.out])
      have RL := HRl.out.grown hgr2 (by omega)
      have AL := along_G gl n j back (.slice none 0 0) fl fl _ RL hlt hb hn80
      generalize al 71 fl fl (lnx n back) (n + 1) j = x at *
      clear hgr2 hpr
      go_wp2_with fail
      refine AL.mono ?_
      rintro e w' ⟨rfl, rfl⟩
      clear AL
      go_wp2_with fail
      go_roundw
      case rel =>
        have o := HO.out
        have g := HG.out
        rw [FV.out] at g
        exact ⟨j + 1, by omega, by go_num, by rw [FV.out] at o; exact o, g⟩
      case measure => simp [intOf]; omega
    · have hj2 : j = n := by omega
      rw [hj2] at own
      have RD := hid (row_done ns n back xs (k := k) HBS.out hgr2 HSS.out own HSF.out)
      clear own hgr2 hj2
      go_wp2_with fail
      go_ret
      exact RD.out
end

end Go.Proofs.Ytjagijohfkffiab
