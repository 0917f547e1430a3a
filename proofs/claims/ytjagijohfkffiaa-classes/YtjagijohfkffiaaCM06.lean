import Derived.Test.YtjagijohfkffiaaCM03
import Derived.Test.YtjagijohfkffiaaCM05
import Derived.Outline

/- The walk of Endless.Holds. -/
namespace Go.Proofs.Ytjagijohfkffiaa
open Go.RowKit
set_option linter.unusedVariables false

theorem Try.infoPlace : (Try.prog.info? 121).map (fun i => (i.zero, i.size, i.bytes)) = some (some (.agg #[.int .i64 0, .int .i64 0]), 2, 16) := by kernel_rfl

def natInts (xs : List Nat) : List Value := xs.map fun x => Value.int .i64 (x : Nat)

theorem flat_get (ns : List Nd) (i : Nat) (hi : i < ns.length) : (flat ns)[i * 3]? = some (.int .u8 (ndAt ns i).op) ∧ (flat ns)[i * 3 + 1]? = some (.int .i64 (ndAt ns i).l) ∧ (flat ns)[i * 3 + 2]? = some (.int .i64 (ndAt ns i).r) := by
  induction ns generalizing i with
  | nil => simp at hi
  | cons p ps ih =>
    cases i with
    | zero => simp [flat, ndAt]
    | succ i =>
      have := ih i (by simpa using hi)
      rw [show ndAt (p :: ps) (i + 1) = ndAt ps i by simp [ndAt], show flat (p :: ps) = [.int .u8 p.op, .int .i64 p.l, .int .i64 p.r] ++ flat ps by simp [flat]]
      rw [List.getElem?_append_right (by simp; omega), List.getElem?_append_right (by simp; omega), List.getElem?_append_right (by simp; omega)]
      simpa [show (i + 1) * 3 - 3 = i * 3 by omega, show (i + 1) * 3 + 1 - 3 = i * 3 + 1 by omega, show (i + 1) * 3 + 2 - 3 = i * 3 + 2 by omega] using this

/-- The places of the first j letters, nothing known of them yet. -/
def prefTo (xs : List Nat) (j : Nat) : List (Nat × Nat) := (xs.take j).map fun x => (x, 0)
theorem prefTo_len {xs : List Nat} {j : Nat} (h : j ≤ xs.length) : (prefTo xs j).length = j := by simp [prefTo]; omega
theorem prefTo_succ {xs : List Nat} {j : Nat} (h : j < xs.length) : prefTo xs (j + 1) = prefTo xs j ++ [(ltOf xs j, 0)] := by
  unfold prefTo
  rw [List.take_succ_eq_append_getElem h, List.map_append]
  simp [ltOf, List.getD, List.getElem?_eq_getElem h]
theorem prefTo_all (xs : List Nat) : prefTo xs xs.length = xs.map fun x => (x, 0) := by unfold prefTo; rw [List.take_length]

/-- A row of the call's own that has something in it: where it lies. -/
theorem own_at {w : World} {B e size n cap : Nat} {ao : Option Addr} {xs : List Value} (h : w.ownsRow B e size (.slice ao n cap) n xs) (hn : 0 < n) : ∃ g, ao = some ⟨g, 0, none⟩ ∧ B ≤ g ∧ g < w.heap.size ∧ n ≤ cap := by
  rcases h.2 with ⟨e, h0⟩ | ⟨g, cap', cur, e, hb, hh, hc, _⟩
  · omega
  · cases e
    exact ⟨g, rfl, hb, heap_lt hh, hc⟩

theorem tb_new (w : World) (back : Nat) : Tb (w.alloc (.cells #[.slice none 0 0, .int .i64 back] 119)) w.heap.size back [] :=
  ⟨⟨none, 0, by simp, World.ownsRow_nil _ _ _ _⟩, by simp, by simp⟩

theorem tb_push {w w' : World} {T back : Nat} {ps : List (Nat × Nat)} (h : Tb w T back ps) (hb : Below (T + 1) w w') (p : Nat × Nat) (ao : Option Addr) (cap : Nat) (n : Nat) (hn : n = ps.length + 1)
    (ho : w'.ownsRow (T + 1) 121 2 (.slice ao n cap) n (flatP (ps ++ [p]))) : Tb (w'.setCell ⟨T, 0, none⟩ (.slice ao n cap)) T back (ps ++ [p]) := by
  subst hn
  have hR : T < T + 1 := Nat.lt_succ_self _
  obtain ⟨_, _, hc, _⟩ := h.c0
  refine ⟨⟨ao, cap, ?_, ?_⟩, ?_, ?_⟩
  · rw [List.length_append, List.length_singleton]
    exact World.cell?_setCell_same _ _ _ ((hb.cell (p := ⟨T, 0, none⟩) hR).trans hc)
  · rw [List.length_append, List.length_singleton]
    exact ownsRow_setCell_below ho (by simp) _
  · rw [World.cell?_setCell_other _ _ _ _ (by simp), hb.cell hR]; exact h.c1
  · rw [World.frozen?_setCell, hb.frozen hR]; exact h.f0

set_option maxHeartbeats 1600000 in
set_option maxRecDepth 100000 in
theorem eholds_any (B1 B2 g n cap back m ncap : Nat) (ao : Option Addr) (xs : List Nat) (ns : List Nd) (w : World)
    (hx : w.ownsRow B1 3 1 (.slice (some ⟨g, 0, none⟩) n cap) n (natInts xs)) (hns : w.ownsRow B2 123 3 (.slice ao m ncap) m (flat ns))
    (hg : Good ns) (hlm : ns.length = m) (hlx : xs.length = n) (hb : back < n) (hn : n ≤ 80) (h8 : ∀ x ∈ xs, x < 8) :
    Calls Try.prog 50 #[.agg #[.slice (some ⟨g, 0, none⟩) n cap, .int .i64 back], .slice ao m ncap] w fun e w' => e = .returned (.bool (holdsB back ns xs)) ∧ Below w.heap.size w w' := by
  have hpos := hg.pos
  have hle := hg.le
  obtain ⟨gn, rfl, hgn0, hgn, hncap⟩ := own_at hns (by omega)
  obtain ⟨g', e, hg0, hgg, hcap⟩ := own_at hx (by omega)
  cases e
  have X : ∀ i, i < n → w.cell? ⟨g, i, none⟩ = some (.int .i64 (ltOf xs i : Nat)) := fun i hi => by
    rw [hx.cellAt i (by omega)]; simp [natInts, ltOf, List.getD, List.getElem?_eq_getElem (show i < xs.length by omega)]
  have N0 : ∀ i, i < m → w.cell? ⟨gn, i * 3, none⟩ = some (.int .u8 (ndAt ns i).op) := fun i hi => (hns.cellAt (i * 3) (by omega)).trans (flat_get ns i (by omega)).1
  have N1 : ∀ i, i < m → w.cell? ⟨gn, i * 3 + 1, none⟩ = some (.int .i64 (ndAt ns i).l) := fun i hi => (hns.cellAt (i * 3 + 1) (by omega)).trans (flat_get ns i (by omega)).2.1
  have N2 : ∀ i, i < m → w.cell? ⟨gn, i * 3 + 2, none⟩ = some (.int .i64 (ndAt ns i).r) := fun i hi => (hns.cellAt (i * 3 + 2) (by omega)).trans (flat_get ns i (by omega)).2.2
  obtain ⟨i0, hi, hz0, hz1, hz2⟩ := info_parts Try.infoPlace
  have HX := hid X
  have HN0 := hid N0
  have HN1 := hid N1
  have HN2 := hid N2
  clear X N0 N1 N2 hx hns
  go_enter Try.func50, Try.ntmps50
  go_wp2_with fail
  go_loopw [16] (fun i wr => ∃ j : Nat, j ≤ n ∧ i = .int .i64 j ∧ Tb wr (w.heap.size + 1) back (prefTo xs j) ∧ Below w.heap.size w wr) (fun i _ => n - (intOf i).toNat)
  case atStart =>
    refine ⟨0, Nat.zero_le _, rfl, ?_, ((Below.refl _ _).alloc (Nat.le_refl _) _).alloc (by simp) _⟩
    have := tb_new (w.alloc (.cells #[.slice (some ⟨g, 0, none⟩) n cap, .int .i64 back] 69)) back
    simpa [prefTo] using this
  case round =>
    obtain ⟨j, hj, rfl, htr, hbr⟩ := hrel
    by_cases hlt : j < n
    · have c := (hbr.cell (p := ⟨g, j, none⟩) hgg).trans (HX.out j hlt)
      obtain ⟨ao, tcap, d0, own⟩ := htr.c0
      have q0 := htr.f0
      have hl : (prefTo xs j).length = j := prefTo_len (by omega)
      rw [hl] at d0 own
      have hTw := htr.lt
      have HT := hid htr
      have HS := hid (prefTo_succ (xs := xs) (j := j) (by omega))
      have HL := hid hl
      clear htr hl
      generalize ltOf xs j = x at *
      go_wp2_with (at_builtin; go_must (refine wpList_append_own _ rfl (.tmp 21) (.tmp 24) 117 rfl (w.heap.size + 1 + 1) 121 i0 (.agg #[.int .i64 0, .int .i64 0]) 2 16 Try.underlying117 hi hz0 hz1 hz2 rfl (by decide) _ _ _ rfl (own.alloc _) ⟨wr.heap.size, 0, none⟩ 1 1 [.int .i64 x, .int .i64 0] rfl rfl ?c1 ?c2 ?c3 ?c4 ?c5 ?_))
      case c1 => exact cell_two_new _ _ _ _
      case c2 => intro u hu; simp at hu; rcases hu with rfl | rfl <;> rfl
      case c3 => unfold maxLen; omega
      case c4 => omega
      case c5 => simp; omega
      intro v' w1 hown hgrow _
      have hbel : Below (w.heap.size + 1 + 1) wr w1 := ((Below.refl _ _).alloc (by omega) _).grown hgrow (by simp; omega) (fun k h => (own.lt k h).1)
      have e2 : flatP (prefTo xs j) ++ [.int .i64 (x : Nat), .int .i64 0] = flatP (prefTo xs j ++ [(x, 0)]) := (flatP_snoc (prefTo xs j) (x, 0)).symm
      rw [e2] at hown
      clear e2
      obtain ⟨ao', cap', hv⟩ : ∃ ao' cap', v' = .slice ao' (j + 1) cap' := by
        rcases hown.2 with ⟨h, h0⟩ | ⟨g, cap', _, h, _⟩
        · omega
        · exact ⟨_, cap', h⟩
      subst hv
      have P1 := hid (tb_push HT.out hbel (x, 0) ao' cap' (j + 1) (by rw [HL.out]) hown)
      have k2 := (hbel.cell (p := ⟨w.heap.size + 1, 0, none⟩) (Nat.lt_succ_self _)).trans d0
      have g2 := (hbel.frozen (p := ⟨w.heap.size + 1, 0, none⟩) (Nat.lt_succ_self _)).trans q0
      have B1 := hid ((hbr.trans (hbel.mono (by omega))).setCell (p := ⟨w.heap.size + 1, 0, none⟩) (by show w.heap.size ≤ w.heap.size + 1; omega) (.slice ao' (j + 1) cap'))
      clear hown hgrow hbel own d0 q0 c
      go_wp2_with fail
      go_roundw
      case rel => exact ⟨j + 1, by omega, by go_num, by rw [HS.out]; exact P1.out, B1.out⟩
      case measure => simp [intOf]; omega
    · have hj2 : j = n := by omega
      have hps : prefTo xs j = xs.map fun x => (x, 0) := by rw [hj2, ← hlx]; exact prefTo_all xs
      rw [hps] at htr
      have hf : Fine (xs.map fun x => (x, 0)) := fine_of (by intro p hp; simp at hp; obtain ⟨x, hm, rfl⟩ := hp; exact ⟨h8 x hm, by show 0 < 256; decide⟩)
      have hpl : (xs.map fun x => (x, 0)).length = n := by rw [List.length_map]; exact hlx
      have HB : Hid (holdsB back ns xs = (heldAt (tabTo back ns (xs.map fun x => (x, 0)) ns.length) 0).testBit (ns.length - 1)) := hid rfl
      have HW := hid hg.wf
      generalize (xs.map fun x => (x, 0)) = ps at *
      clear hps HX h8 hj2 hj
      have HTR := hid htr
      clear htr
      go_wp2_with fail
      go_loopw [30] (fun i wr => ∃ k : Nat, k ≤ m ∧ i = .int .i64 k ∧ Tb wr (w.heap.size + 1) back (tabTo back ns ps k) ∧ Below w.heap.size w wr) (fun i _ => m - (intOf i).toNat)
      case atStart => exact ⟨0, Nat.zero_le _, rfl, HTR.out, hbr⟩
      case round =>
        obtain ⟨k, hk, rfl, htk, hbk⟩ := hrel
        have tl := tabTo_len back ns ps k
        by_cases hlk : k < m
        · have c0 := (hbk.cell (p := ⟨gn, k * 3, none⟩) hgn).trans (HN0.out k hlk)
          have c1 := (hbk.cell (p := ⟨gn, k * 3 + 1, none⟩) hgn).trans (HN1.out k hlk)
          have c2 := (hbk.cell (p := ⟨gn, k * 3 + 2, none⟩) hgn).trans (HN2.out k hlk)
          have hsm := HW.out.small hle (i := k) (n := ndAt ns k) (by simp [ndAt, List.getD, List.getElem?_eq_getElem (show k < ns.length by omega)])
          have F := fun W h => fill_any (w.heap.size + 1) back k (ndAt ns k) (tabTo back ns ps k) W h (tabTo_fine hf k (by omega)) (by omega) (by omega) (by omega) hsm.1 hsm.2
          have HS : Hid (tabTo back ns ps (k + 1) = fillL (ndAt ns k) k back (tabTo back ns ps k)) := hid rfl
          have HT := hid htk
          have hTw := htk.lt
          clear htk hsm
          generalize tabTo back ns ps k = pk at *
          generalize ndAt ns k = nd at *
          go_wp2_with fail
          refine (F _ (HT.out.below ((Below.refl _ _).alloc (Nat.le_refl _) _))).mono ?_
          rintro e w2 ⟨rfl, ht2, hb2, hk2⟩
          clear F c0 c1 c2
          have B2 := hid ((hbk.trans ((Below.refl _ _).alloc (by omega) _)).trans (hb2.mono (by omega)))
          have T2 := hid ht2
          clear hb2 ht2 hk2
          go_wp2_with fail
          go_roundw
          case rel => exact ⟨k + 1, by omega, by go_num, by rw [HS.out]; exact T2.out, B2.out⟩
          case measure => simp [intOf]; omega
        · have hkm : k = m := by omega
          rw [hkm, ← hlm] at htk
          have tl2 : (tabTo back ns ps ns.length).length = n := by rw [tabTo_len]; exact hpl
          obtain ⟨gp, pcap, d0, own, _, hgp, hpcap⟩ := htk.row (by omega)
          have y := (own.cellAt 1 (by omega)).trans (flatP_get _ 0 (by omega)).2
          have hS := (tabTo_fine (back := back) (ns := ns) hf ns.length hle 0).2
          rw [tl2] at d0 hpcap
          generalize heldAt (tabTo back ns ps ns.length) 0 = S at *
          have kz : ((n : Int) == 0) = false := beq_eq_false_iff_ne.2 (by omega)
          clear own tl
          go_wp2_with fail
          rw [show ((m : Int) - 1) = ((m - 1 : Nat) : Int) from by omega]
          refine (has_any S (m - 1) _ hS (by omega)).mono ?_
          rintro e w2 ⟨rfl, rfl⟩
          go_wp2_with fail
          go_ret
          refine ⟨?_, hbk⟩
          rw [HB.out, hlm]
          rfl

end Go.Proofs.Ytjagijohfkffiaa

/- The walks of the reference's says and along. -/
namespace Go.Proofs.Ytjagijohfkffiaa
open Go.RowKit
set_option linter.unusedVariables false

def saysB (x op : Nat) : Bool := if op = 112 then x.testBit 0 else if op = 113 then x.testBit 1 else x.testBit 2

theorem says_fin : ∀ x : Fin 8, ((x.val : Int) % 2 == 1) = x.val.testBit 0 ∧ ((x.val : Int) / 2 % 2 == 1) = x.val.testBit 1 ∧ ((x.val : Int) / 4 % 2 == 1) = x.val.testBit 2 := by decide

set_option maxHeartbeats 400000 in
theorem says_any (x op : Nat) (w : World) (hx : x < 8) (ho : op = 112 ∨ op = 113 ∨ op = 114) : Calls Try.prog 108 #[.int .i64 x, .int .u8 op] w fun e w' => e = .returned (.bool (saysB x op)) ∧ w' = w := by
  have F := hid (says_fin ⟨x, hx⟩)
  rcases ho with rfl | rfl | rfl
  · go_enter Try.func108, Try.ntmps108
    go_wp2
    go_ret
    exact ⟨ret_bool F.out.1, rfl⟩
  · go_enter Try.func108, Try.ntmps108
    go_wp2
    go_ret
    exact ⟨ret_bool F.out.2.1, rfl⟩
  · go_enter Try.func108, Try.ntmps108
    go_wp2
    go_ret
    exact ⟨ret_bool F.out.2.2, rfl⟩

/-- A row of bools in memory. -/
structure Rb (w : World) (g n : Nat) (f : Nat → Bool) : Prop where
  lt : g < w.heap.size
  cell : ∀ i, i < n → w.cell? ⟨g, i, none⟩ = some (.bool (f i))

theorem Rb.below {w w' : World} {g n : Nat} {f : Nat → Bool} (h : Rb w g n f) (hb : Below w.heap.size w w') : Rb w' g n f :=
  ⟨Nat.lt_of_lt_of_le h.lt hb.size, fun i hi => by rw [hb.cell (p := ⟨g, i, none⟩) h.lt]; exact h.cell i hi⟩

/-- So many steps on. -/
def al (op : Nat) (L R : Nat → Bool) (nx : Nat → Nat) : Nat → Nat → Bool
  | 0, _ => op == 71 || op == 82
  | s + 1, k =>
    if op = 70 then (if L k then true else al op L R nx s (nx k))
    else if op = 71 then (if L k then al op L R nx s (nx k) else false)
    else if op = 85 then (if R k then true else if L k then al op L R nx s (nx k) else false)
    else (if R k then (if L k then true else al op L R nx s (nx k)) else false)

set_option maxHeartbeats 800000 in
theorem along_F (gl n i back : Nat) (ro : Value) (L R : Nat → Bool) (w : World) (hl : Rb w gl n L) (hi : i < n) (hb : back < n) (hn : n ≤ 80) :
    Calls Try.prog 109 #[.int .u8 70, .slice (some ⟨gl, 0, none⟩) n n, ro, .int .i64 i, .int .i64 back] w fun e w' => e = .returned (.bool (al 70 L R (lnx n back) (n + 1) i)) ∧ w' = w := by
  obtain ⟨V, hV⟩ : ∃ V, V = al 70 L R (lnx n back) (n + 1) i := ⟨_, rfl⟩
  rw [← hV]
  have HV := hid hV
  clear hV
  go_enter Try.func109, Try.ntmps109
  go_wp2_with fail
  go_loop [11, 12] (fun k st => ∃ kn sn : Nat, kn < n ∧ sn ≤ n + 1 ∧ k = .int .i64 kn ∧ st = .int .i64 sn ∧ Hid (V = al 70 L R (lnx n back) (n + 1 - sn) kn)) (fun _ st => n + 1 - (intOf st).toNat)
  case atStart => exact ⟨i, 0, hi, Nat.zero_le _, rfl, rfl, HV⟩
  case round =>
    obtain ⟨kn, sn, hk, hs, rfl, rfl, HA⟩ := hrel
    by_cases hlt : sn ≤ n
    · have c := hl.cell kn hk
      cases hL : L kn with
      | true =>
        have H2 : Hid (V = true) := hid (by rw [HA.out, show n + 1 - sn = (n - sn) + 1 by omega]; simp [al, hL])
        rw [hL] at c
        clear hL
        go_wp2_with fail
        go_ret
        exact ⟨by rw [H2.out]; rfl, rfl⟩
      | false =>
        have H2 : Hid (V = al 70 L R (lnx n back) (n + 1 - (sn + 1)) (lnx n back kn)) := hid (by rw [HA.out, show n + 1 - sn = (n + 1 - (sn + 1)) + 1 by omega]; simp [al, hL])
        rw [hL] at c
        clear hL
        by_cases he : kn + 1 = n
        · have hx : Hid (lnx n back kn = back) := hid (by unfold lnx; rw [if_neg (by omega)])
          have ke : ((kn : Int) + 1 == (n : Int)) = true := beq_iff_eq.2 (by omega)
          clear he
          go_wp2_with fail
          go_round
          case rel => exact ⟨back, sn + 1, hb, by omega, by go_num, by go_num, hid (by rw [H2.out, hx.out])⟩
          case measure => simp [intOf]; omega
        · have hx : Hid (lnx n back kn = kn + 1) := hid (by unfold lnx; rw [if_pos (by omega)])
          have ke : ((kn : Int) + 1 == (n : Int)) = false := beq_eq_false_iff_ne.2 (by omega)
          have he2 : kn + 1 < n := by omega
          clear he
          go_wp2_with fail
          go_round
          case rel => exact ⟨kn + 1, sn + 1, he2, by omega, by go_num, by go_num, hid (by rw [H2.out, hx.out])⟩
          case measure => simp [intOf]; omega
    · have H2 : Hid (V = false) := hid (by rw [HA.out, show n + 1 - sn = 0 by omega]; rfl)
      go_wp2_with fail
      go_ret
      exact ⟨by rw [H2.out]; rfl, rfl⟩

set_option maxHeartbeats 800000 in
theorem along_G (gl n i back : Nat) (ro : Value) (L R : Nat → Bool) (w : World) (hl : Rb w gl n L) (hi : i < n) (hb : back < n) (hn : n ≤ 80) :
    Calls Try.prog 109 #[.int .u8 71, .slice (some ⟨gl, 0, none⟩) n n, ro, .int .i64 i, .int .i64 back] w fun e w' => e = .returned (.bool (al 71 L R (lnx n back) (n + 1) i)) ∧ w' = w := by
  obtain ⟨V, hV⟩ : ∃ V, V = al 71 L R (lnx n back) (n + 1) i := ⟨_, rfl⟩
  rw [← hV]
  have HV := hid hV
  clear hV
  go_enter Try.func109, Try.ntmps109
  go_wp2_with fail
  go_loop [11, 12] (fun k st => ∃ kn sn : Nat, kn < n ∧ sn ≤ n + 1 ∧ k = .int .i64 kn ∧ st = .int .i64 sn ∧ Hid (V = al 71 L R (lnx n back) (n + 1 - sn) kn)) (fun _ st => n + 1 - (intOf st).toNat)
  case atStart => exact ⟨i, 0, hi, Nat.zero_le _, rfl, rfl, HV⟩
  case round =>
    obtain ⟨kn, sn, hk, hs, rfl, rfl, HA⟩ := hrel
    by_cases hlt : sn ≤ n
    · have c := hl.cell kn hk
      cases hL : L kn with
      | true =>
        have H2 : Hid (V = al 71 L R (lnx n back) (n + 1 - (sn + 1)) (lnx n back kn)) := hid (by rw [HA.out, show n + 1 - sn = (n + 1 - (sn + 1)) + 1 by omega]; simp [al, hL])
        rw [hL] at c
        clear hL
        by_cases he : kn + 1 = n
        · have hx : Hid (lnx n back kn = back) := hid (by unfold lnx; rw [if_neg (by omega)])
          have ke : ((kn : Int) + 1 == (n : Int)) = true := beq_iff_eq.2 (by omega)
          clear he
          go_wp2_with fail
          go_round
          case rel => exact ⟨back, sn + 1, hb, by omega, by go_num, by go_num, hid (by rw [H2.out, hx.out])⟩
          case measure => simp [intOf]; omega
        · have hx : Hid (lnx n back kn = kn + 1) := hid (by unfold lnx; rw [if_pos (by omega)])
          have ke : ((kn : Int) + 1 == (n : Int)) = false := beq_eq_false_iff_ne.2 (by omega)
          have he2 : kn + 1 < n := by omega
          clear he
          go_wp2_with fail
          go_round
          case rel => exact ⟨kn + 1, sn + 1, he2, by omega, by go_num, by go_num, hid (by rw [H2.out, hx.out])⟩
          case measure => simp [intOf]; omega
      | false =>
        have H2 : Hid (V = false) := hid (by rw [HA.out, show n + 1 - sn = (n - sn) + 1 by omega]; simp [al, hL])
        rw [hL] at c
        clear hL
        go_wp2_with fail
        go_ret
        exact ⟨by rw [H2.out]; rfl, rfl⟩
    · have H2 : Hid (V = true) := hid (by rw [HA.out, show n + 1 - sn = 0 by omega]; rfl)
      go_wp2_with fail
      go_ret
      exact ⟨by rw [H2.out]; rfl, rfl⟩

set_option maxHeartbeats 800000 in
theorem along_U (gl n i back : Nat) (gr : Nat) (L R : Nat → Bool) (w : World) (hl : Rb w gl n L) (hr : Rb w gr n R) (hi : i < n) (hb : back < n) (hn : n ≤ 80) :
    Calls Try.prog 109 #[.int .u8 85, .slice (some ⟨gl, 0, none⟩) n n, .slice (some ⟨gr, 0, none⟩) n n, .int .i64 i, .int .i64 back] w fun e w' => e = .returned (.bool (al 85 L R (lnx n back) (n + 1) i)) ∧ w' = w := by
  obtain ⟨V, hV⟩ : ∃ V, V = al 85 L R (lnx n back) (n + 1) i := ⟨_, rfl⟩
  rw [← hV]
  have HV := hid hV
  clear hV
  go_enter Try.func109, Try.ntmps109
  go_wp2_with fail
  go_loop [11, 12] (fun k st => ∃ kn sn : Nat, kn < n ∧ sn ≤ n + 1 ∧ k = .int .i64 kn ∧ st = .int .i64 sn ∧ Hid (V = al 85 L R (lnx n back) (n + 1 - sn) kn)) (fun _ st => n + 1 - (intOf st).toNat)
  case atStart => exact ⟨i, 0, hi, Nat.zero_le _, rfl, rfl, HV⟩
  case round =>
    obtain ⟨kn, sn, hk, hs, rfl, rfl, HA⟩ := hrel
    by_cases hlt : sn ≤ n
    · have c := hl.cell kn hk
      have c2 := hr.cell kn hk
      cases hR : R kn with
      | true =>
        have H2 : Hid (V = true) := hid (by rw [HA.out, show n + 1 - sn = (n - sn) + 1 by omega]; simp [al, hR])
        rw [hR] at c2
        clear hR
        go_wp2_with fail
        go_ret
        exact ⟨by rw [H2.out]; rfl, rfl⟩
      | false =>
        cases hL : L kn with
        | true =>
          have H2 : Hid (V = al 85 L R (lnx n back) (n + 1 - (sn + 1)) (lnx n back kn)) := hid (by rw [HA.out, show n + 1 - sn = (n + 1 - (sn + 1)) + 1 by omega]; simp [al, hR, hL])
          rw [hR] at c2
          rw [hL] at c
          clear hR hL
          by_cases he : kn + 1 = n
          · have hx : Hid (lnx n back kn = back) := hid (by unfold lnx; rw [if_neg (by omega)])
            have ke : ((kn : Int) + 1 == (n : Int)) = true := beq_iff_eq.2 (by omega)
            clear he
            go_wp2_with fail
            go_round
            case rel => exact ⟨back, sn + 1, hb, by omega, by go_num, by go_num, hid (by rw [H2.out, hx.out])⟩
            case measure => simp [intOf]; omega
          · have hx : Hid (lnx n back kn = kn + 1) := hid (by unfold lnx; rw [if_pos (by omega)])
            have ke : ((kn : Int) + 1 == (n : Int)) = false := beq_eq_false_iff_ne.2 (by omega)
            have he2 : kn + 1 < n := by omega
            clear he
            go_wp2_with fail
            go_round
            case rel => exact ⟨kn + 1, sn + 1, he2, by omega, by go_num, by go_num, hid (by rw [H2.out, hx.out])⟩
            case measure => simp [intOf]; omega
        | false =>
          have H2 : Hid (V = false) := hid (by rw [HA.out, show n + 1 - sn = (n - sn) + 1 by omega]; simp [al, hR, hL])
          rw [hR] at c2
          rw [hL] at c
          clear hR hL
          go_wp2_with fail
          go_ret
          exact ⟨by rw [H2.out]; rfl, rfl⟩
    · have H2 : Hid (V = false) := hid (by rw [HA.out, show n + 1 - sn = 0 by omega]; rfl)
      go_wp2_with fail
      go_ret
      exact ⟨by rw [H2.out]; rfl, rfl⟩

set_option maxHeartbeats 800000 in
theorem along_R (gl n i back : Nat) (gr : Nat) (L R : Nat → Bool) (w : World) (hl : Rb w gl n L) (hr : Rb w gr n R) (hi : i < n) (hb : back < n) (hn : n ≤ 80) :
    Calls Try.prog 109 #[.int .u8 82, .slice (some ⟨gl, 0, none⟩) n n, .slice (some ⟨gr, 0, none⟩) n n, .int .i64 i, .int .i64 back] w fun e w' => e = .returned (.bool (al 82 L R (lnx n back) (n + 1) i)) ∧ w' = w := by
  obtain ⟨V, hV⟩ : ∃ V, V = al 82 L R (lnx n back) (n + 1) i := ⟨_, rfl⟩
  rw [← hV]
  have HV := hid hV
  clear hV
  go_enter Try.func109, Try.ntmps109
  go_wp2_with fail
  go_loop [11, 12] (fun k st => ∃ kn sn : Nat, kn < n ∧ sn ≤ n + 1 ∧ k = .int .i64 kn ∧ st = .int .i64 sn ∧ Hid (V = al 82 L R (lnx n back) (n + 1 - sn) kn)) (fun _ st => n + 1 - (intOf st).toNat)
  case atStart => exact ⟨i, 0, hi, Nat.zero_le _, rfl, rfl, HV⟩
  case round =>
    obtain ⟨kn, sn, hk, hs, rfl, rfl, HA⟩ := hrel
    by_cases hlt : sn ≤ n
    · have c := hl.cell kn hk
      have c2 := hr.cell kn hk
      cases hR : R kn with
      | true =>
        cases hL : L kn with
        | true =>
          have H2 : Hid (V = true) := hid (by rw [HA.out, show n + 1 - sn = (n - sn) + 1 by omega]; simp [al, hR, hL])
          rw [hR] at c2
          rw [hL] at c
          clear hR hL
          go_wp2_with fail
          go_ret
          exact ⟨by rw [H2.out]; rfl, rfl⟩
        | false =>
          have H2 : Hid (V = al 82 L R (lnx n back) (n + 1 - (sn + 1)) (lnx n back kn)) := hid (by rw [HA.out, show n + 1 - sn = (n + 1 - (sn + 1)) + 1 by omega]; simp [al, hR, hL])
          rw [hR] at c2
          rw [hL] at c
          clear hR hL
          by_cases he : kn + 1 = n
          · have hx : Hid (lnx n back kn = back) := hid (by unfold lnx; rw [if_neg (by omega)])
            have ke : ((kn : Int) + 1 == (n : Int)) = true := beq_iff_eq.2 (by omega)
            clear he
            go_wp2_with fail
            go_round
            case rel => exact ⟨back, sn + 1, hb, by omega, by go_num, by go_num, hid (by rw [H2.out, hx.out])⟩
            case measure => simp [intOf]; omega
          · have hx : Hid (lnx n back kn = kn + 1) := hid (by unfold lnx; rw [if_pos (by omega)])
            have ke : ((kn : Int) + 1 == (n : Int)) = false := beq_eq_false_iff_ne.2 (by omega)
            have he2 : kn + 1 < n := by omega
            clear he
            go_wp2_with fail
            go_round
            case rel => exact ⟨kn + 1, sn + 1, he2, by omega, by go_num, by go_num, hid (by rw [H2.out, hx.out])⟩
            case measure => simp [intOf]; omega
      | false =>
        have H2 : Hid (V = false) := hid (by rw [HA.out, show n + 1 - sn = (n - sn) + 1 by omega]; simp [al, hR])
        rw [hR] at c2
        clear hR
        go_wp2_with fail
        go_ret
        exact ⟨by rw [H2.out]; rfl, rfl⟩
    · have H2 : Hid (V = true) := hid (by rw [HA.out, show n + 1 - sn = 0 by omega]; rfl)
      go_wp2_with fail
      go_ret
      exact ⟨by rw [H2.out]; rfl, rfl⟩

/-- So many steps on all that comes has been seen. -/
theorem al_F {n back : Nat} (hb : back < n) (L R : Nat → Bool) (i : Nat) (hi : i < n) : al 70 L R (lnx n back) (n + 1) i = true ↔ ∃ s, L (it (lnx n back) s i) = true := by
  have key : ∀ s k, al 70 L R (lnx n back) s k = true ↔ ∃ m, m < s ∧ L (it (lnx n back) m k) = true := by
    intro s
    induction s with
    | zero => intro k; simp [al]
    | succ s ih =>
      intro k
      simp only [al, if_true]
      cases hL : L k with
      | true => simp; exact ⟨0, by omega, hL⟩
      | false =>
        simp only [Bool.false_eq_true, if_false]
        rw [ih]
        constructor
        · rintro ⟨m, hm, h⟩; exact ⟨m + 1, by omega, h⟩
        · rintro ⟨m, hm, h⟩
          cases m with
          | zero => simp [it, hL] at h
          | succ m => exact ⟨m, by omega, h⟩
  rw [key]
  constructor
  · rintro ⟨m, _, h⟩; exact ⟨m, h⟩
  · rintro ⟨m, h⟩
    obtain ⟨s, hs, h1, _⟩ := UU_near hb (A := fun _ => True) (B := fun i => L i = true) hi ⟨m, h, fun _ _ => trivial⟩
    exact ⟨s, by omega, h1⟩
theorem al_G {n back : Nat} (hb : back < n) (L R : Nat → Bool) (i : Nat) (hi : i < n) : al 71 L R (lnx n back) (n + 1) i = true ↔ ∀ s, L (it (lnx n back) s i) = true := by
  have key : ∀ s k, al 71 L R (lnx n back) s k = true ↔ ∀ m, m < s → L (it (lnx n back) m k) = true := by
    intro s
    induction s with
    | zero => intro k; simp [al]
    | succ s ih =>
      intro k
      simp only [al, Nat.reduceEqDiff, if_false, if_true]
      cases hL : L k with
      | false => simp; exact ⟨0, by omega, hL⟩
      | true =>
        simp only [if_true]
        rw [ih]
        constructor
        · intro h m hm
          cases m with
          | zero => exact hL
          | succ m => exact h m (by omega)
        · intro h m hm; exact h (m + 1) (by omega)
  rw [key]
  constructor
  · intro h s
    refine Classical.byContradiction fun hc => ?_
    obtain ⟨s, hs, h1, _⟩ := UU_near hb (A := fun _ => True) (B := fun i => ¬ L i = true) hi ⟨s, hc, fun _ _ => trivial⟩
    exact h1 (h s (by omega))
  · intro h m _; exact h m
theorem al_U {n back : Nat} (hb : back < n) (L R : Nat → Bool) (i : Nat) (hi : i < n) : al 85 L R (lnx n back) (n + 1) i = true ↔ ∃ s, R (it (lnx n back) s i) = true ∧ ∀ m, m < s → L (it (lnx n back) m i) = true := by
  have key : ∀ s k, al 85 L R (lnx n back) s k = true ↔ ∃ t, t < s ∧ R (it (lnx n back) t k) = true ∧ ∀ m, m < t → L (it (lnx n back) m k) = true := by
    intro s
    induction s with
    | zero => intro k; simp [al]
    | succ s ih =>
      intro k
      simp only [al, Nat.reduceEqDiff, if_false, if_true]
      cases hR : R k with
      | true => simp only [if_true, true_iff]; exact ⟨0, by omega, hR, fun m hm => by omega⟩
      | false =>
        simp only [Bool.false_eq_true, if_false]
        cases hL : L k with
        | false =>
          simp only [Bool.false_eq_true, if_false, false_iff]
          rintro ⟨t, _, h1, h2⟩
          cases t with
          | zero => simp [it, hR] at h1
          | succ t => have := h2 0 (by omega); simp [it, hL] at this
        | true =>
          simp only [if_true]
          rw [ih]
          constructor
          · rintro ⟨t, ht, h1, h2⟩
            refine ⟨t + 1, by omega, h1, fun m hm => ?_⟩
            cases m with
            | zero => exact hL
            | succ m => exact h2 m (by omega)
          · rintro ⟨t, ht, h1, h2⟩
            cases t with
            | zero => simp [it, hR] at h1
            | succ t => exact ⟨t, by omega, h1, fun m hm => h2 (m + 1) (by omega)⟩
  rw [key]
  constructor
  · rintro ⟨t, _, h⟩; exact ⟨t, h⟩
  · intro h
    obtain ⟨s, hs, h1, h2⟩ := UU_near hb (A := fun i => L i = true) (B := fun i => R i = true) hi h
    exact ⟨s, by omega, h1, h2⟩
theorem al_R {n back : Nat} (hb : back < n) (L R : Nat → Bool) (i : Nat) (hi : i < n) : al 82 L R (lnx n back) (n + 1) i = true ↔ ∀ s, R (it (lnx n back) s i) = true ∨ ∃ m, m < s ∧ L (it (lnx n back) m i) = true := by
  have key : ∀ s k, al 82 L R (lnx n back) s k = !al 85 (fun i => !L i) (fun i => !R i) (lnx n back) s k := by
    intro s
    induction s with
    | zero => intro k; rfl
    | succ s ih =>
      intro k
      simp only [al, Nat.reduceEqDiff, if_false, if_true]
      rw [ih (lnx n back k)]
      generalize al 85 (fun i => !L i) (fun i => !R i) (lnx n back) s (lnx n back k) = v
      by_cases hR : R k = true <;> by_cases hL : L k = true <;> simp [hR, hL]
  have h2 := al_U hb (fun i => !L i) (fun i => !R i) i hi
  rw [key]
  constructor
  · intro h s
    have h3 : ¬ al 85 (fun i => !L i) (fun i => !R i) (lnx n back) (n + 1) i = true := by simpa using h
    rw [h2] at h3
    cases hR : R (it (lnx n back) s i) with
    | true => exact Or.inl rfl
    | false =>
      refine Or.inr (Classical.byContradiction fun hc => h3 ⟨s, by simp [hR], fun m hm => ?_⟩)
      cases hL : L (it (lnx n back) m i) with
      | false => rfl
      | true => exact absurd ⟨m, hm, hL⟩ hc
  · intro h
    cases hv : al 85 (fun i => !L i) (fun i => !R i) (lnx n back) (n + 1) i with
    | false => rfl
    | true =>
      obtain ⟨s, h3, h4⟩ := h2.1 hv
      rcases h s with h5 | ⟨m, hm, h5⟩
      · simp [h5] at h3
      · have := h4 m hm; simp [h5] at this

end Go.Proofs.Ytjagijohfkffiaa
