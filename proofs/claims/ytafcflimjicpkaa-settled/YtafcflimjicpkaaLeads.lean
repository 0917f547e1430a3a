/- The ways in memory, and the walk of leads. -/
import Derived.Test.YtafcflimjicpkaaFlatL
import Derived.Deep.AppendLies
import Derived.BigQuiet
namespace Go.Proofs.Ytafcflimjicpkaa
open Go.RowKit
set_option linter.unusedVariables false

/-- The views before, in memory. -/
def BefM (w : World) (P : Nat) (ns : List Nd) : Prop := ∀ x N, x < 8 → N < 256 → w.cell? ⟨P, x * 256 + N, none⟩ = some (.int .u8 (bef ns x N : Nat))
theorem BefM.below {B : Nat} {w w' : World} {P : Nat} {ns : List Nd} (h : BefM w P ns) (hb : Below B w w') (hlt : P < B) : BefM w' P ns := fun x N hx hN => (hb.cell (p := ⟨P, x * 256 + N, none⟩) hlt).trans (h x N hx hN)

/-- The ways in memory, by the spot to which they lead. -/
structure WaysM (w : World) (gi n : Nat) (into : Nat → List (Nat × Nat)) : Prop where
  lt : gi < w.heap.size
  row : ∀ t, t < n → ∃ ao cap, w.cell? ⟨gi, t, none⟩ = some (.slice ao (into t).length cap) ∧ (0 < (into t).length → ∃ gr, ao = some ⟨gr, 0, none⟩ ∧ gr < w.heap.size ∧
    ∀ j st, (into t)[j]? = some st → w.cell? ⟨gr, j * 2, none⟩ = some (.int .i64 (st.1 : Nat)) ∧ w.cell? ⟨gr, j * 2 + 1, none⟩ = some (.int .i64 (st.2 : Nat)))
theorem WaysM.below {w w' : World} {gi n : Nat} {into : Nat → List (Nat × Nat)} (h : WaysM w gi n into) (hb : Below w.heap.size w w') : WaysM w' gi n into := by
  refine ⟨Nat.lt_of_lt_of_le h.lt hb.size, fun t ht => ?_⟩
  obtain ⟨ao, cap, h1, h2⟩ := h.row t ht
  refine ⟨ao, cap, (hb.cell (p := ⟨gi, t, none⟩) h.lt).trans h1, fun h0 => ?_⟩
  obtain ⟨gr, h3, h4, h5⟩ := h2 h0
  refine ⟨gr, h3, Nat.lt_of_lt_of_le h4 hb.size, fun j st hj => ?_⟩
  obtain ⟨h6, h7⟩ := h5 j st hj
  exact ⟨(hb.cell (p := ⟨gr, j * 2, none⟩) h4).trans h6, (hb.cell (p := ⟨gr, j * 2 + 1, none⟩) h4).trans h7⟩

structure WaysP (n : Nat) (into : Nat → List (Nat × Nat)) : Prop where
  le : n ≤ 8589934592
  st : ∀ t, t < n → ∀ st ∈ into t, st.1 < n ∧ st.2 < 8
  len : ∀ t, t < n → (into t).length ≤ 1099511627776

/-- A way leads from the one to the other. -/
def Ew (n : Nat) (ns : List Nd) (into : Nat → List (Nat × Nat)) (y a : Nat) : Prop := a < n * 256 ∧ ∃ st ∈ into (a / 256), y = st.1 * 256 + bef ns st.2 (a % 256)
theorem ew_lt {n : Nat} {ns : List Nd} {into : Nat → List (Nat × Nat)} (a b : Nat) (h : Ew n ns into a b) : b < n * 256 := h.1
theorem ew_from {n : Nat} {ns : List Nd} {into : Nat → List (Nat × Nat)} (h8 : ns.length ≤ 8) (hp : WaysP n into) {y a : Nat} (h : Ew n ns into y a) : y < n * 256 := by
  obtain ⟨ha, st, hs, rfl⟩ := h
  have h1 := (hp.st (a / 256) (by omega) st hs).1
  have h2 := bef_lt h8 st.2 (a % 256)
  omega

theorem upd_t {f : Nat → Bool} {b y : Nat} (h : f y = true) : upd f b true y = true := by unfold upd; split <;> first | rfl | exact h
theorem upd_same (f : Nat → Bool) (b : Nat) (v : Bool) : upd f b v b = v := by simp [upd]

def DoneTo (n : Nat) (ns : List Nd) (into : Nat → List (Nat × Nat)) (rl : List Nat) (found : Nat → Bool) (i : Nat) : Prop := ∀ j a, j < i → rl[j]? = some a → ∀ y, Ew n ns into y a → found y = true
theorem DoneTo.add {n : Nat} {ns : List Nd} {into : Nat → List (Nat × Nat)} {rl : List Nat} {found : Nat → Bool} {i : Nat} (h : DoneTo n ns into rl found i) (hi : i < rl.length) (y : Nat) : DoneTo n ns into (rl ++ [y]) (upd found y true) i := fun j a hj ha z hz => by
  rw [List.getElem?_append_left (by omega)] at ha
  exact upd_t (h j a hj ha z hz)

def DoneIn (ns : List Nd) (ws : List (Nat × Nat)) (u : Nat) (found : Nat → Bool) (j : Nat) : Prop := ∀ x st, x < j → ws[x]? = some st → found (st.1 * 256 + bef ns st.2 u) = true
theorem DoneIn.step {ns : List Nd} {ws : List (Nat × Nat)} {u j : Nat} {found : Nat → Bool} (h : DoneIn ns ws u found j) {st : Nat × Nat} (hj : ws[j]? = some st) (hf : found (st.1 * 256 + bef ns st.2 u) = true) : DoneIn ns ws u found (j + 1) := fun x s2 hx hs => by
  by_cases e : x = j
  · subst e; rw [hj] at hs; cases hs; exact hf
  · exact h x s2 (by omega) hs
theorem DoneIn.add {ns : List Nd} {ws : List (Nat × Nat)} {u j : Nat} {found : Nat → Bool} (h : DoneIn ns ws u found j) (y : Nat) : DoneIn ns ws u (upd found y true) j := fun x s2 hx hs => upd_t (h x s2 hx hs)
theorem done_next {n : Nat} {ns : List Nd} {into : Nat → List (Nat × Nat)} {rl : List Nat} {found : Nat → Bool} {k s u : Nat} (h : DoneTo n ns into rl found k) (hk : rl[k]? = some (s * 256 + u)) (hu : u < 256) (hi : DoneIn ns (into s) u found (into s).length) : DoneTo n ns into rl found (k + 1) := fun j a hj ha y hy => by
  by_cases e : j = k
  · subst e
    rw [hk] at ha
    cases ha
    obtain ⟨_, st, hs, rfl⟩ := hy
    rw [show (s * 256 + u) / 256 = s by omega] at hs
    rw [show (s * 256 + u) % 256 = u by omega]
    obtain ⟨x, hx, ex⟩ := List.getElem_of_mem hs
    exact hi x st hx (by rw [List.getElem?_eq_getElem hx, ex])
  · exact h j a (by omega) ha y hy

set_option maxHeartbeats 8000000 in
set_option maxRecDepth 100000 in
theorem leads_any (P gi n icap g cap : Nat) (ns : List Nd) (into : Nat → List (Nat × Nat)) (goal : Nat → Bool) (w : World) (h8 : ns.length ≤ 8) (hp : WaysP n into) (hbm : BefM w P ns) (hP : P < w.heap.size) (hw : WaysM w gi n into) (hgl : FlatG w g (n * 256) goal) (hg : g < w.heap.size) :
    Calls Try.prog 129 #[.pointer (some ⟨P, 0, none⟩), .agg #[.slice (some ⟨gi, 0, none⟩) n icap], .slice (some ⟨g, 0, none⟩) n cap] w fun e w' => ∃ g' found, e = .returned (.slice (some ⟨g', 0, none⟩) n n) ∧ w.heap.size ≤ g' ∧ g' < w'.heap.size ∧ FlatG w' g' (n * 256) found ∧ (∀ x, found x = true ↔ LeadsP (Ew n ns into) (fun y => goal y = true) x) ∧ Below w.heap.size w w' := by
  have hn := hp.le
  have HP := hid hp
  have HM := hid hbm
  have HW := hid hw
  have HG := hid hgl
  have hgi := hw.lt
  obtain ⟨i0, hi, hz0, hz1, hz2⟩ := info_parts Try.infoStand
  clear hp hbm hw hgl
  go_enter Try.func129, Try.ntmps129
  go_wp2_with (at_make; go_must (refine wpList_make_groups _ rfl (.tmp 16) rfl n rfl (by omega) ?_))
  intro w1 F1 hlt1 hb1
  have c4 : Hid (w1.cell? ⟨w.heap.size, 0, none⟩ = some (.slice (some ⟨gi, 0, none⟩) n icap)) := hid ((hb1.cell (p := ⟨w.heap.size, 0, none⟩) (by show w.heap.size < w.heap.size + 1; omega)).trans (by simp))
  have HB1 := hid (((Below.refl w.heap.size w).alloc (Nat.le_refl _) (.cells #[.slice (some ⟨gi, 0, none⟩) n icap] 175)).trans (hb1.mono (by omega)))
  have F7 := hid F1
  clear F1 hb1
  go_wp2_with fail
  refine (list_any g n cap goal w1 (by omega) (HG.out.below HB1.out hg) (by omega)).mono ?_
  rintro e w2 ⟨v0, rfl, own2, hb2⟩
  have F7 := hid (F7.out.below hb2 hlt1)
  have c4 := hid ((hb2.cell (p := ⟨w.heap.size, 0, none⟩) (by show w.heap.size < w1.heap.size; omega)).trans c4.out)
  have HB2 := hid (HB1.out.trans (hb2.mono (by omega)))
  have O2 := hid own2
  have hs2 := hb2.size
  clear own2 hb2 HB1
  generalize hB1 : w1.heap.size = B1 at *
  go_wp2_with fail
  go_loopw [8, 9] (fun v i wq => ∃ (k : Nat) (rl : List Nat) (found : Nat → Bool), k ≤ rl.length ∧ i = .int .i64 k ∧ Hid (LeadI (Ew n ns into) (n * 256) goal rl found) ∧ Hid (DoneTo n ns into rl found k) ∧ Hid (wq.ownsRow B1 199 2 v rl.length (flatSd rl)) ∧ Hid (FlatG wq (w.heap.size + 1) (n * 256) found) ∧ Hid (wq.cell? ⟨w.heap.size, 0, none⟩ = some (.slice (some ⟨gi, 0, none⟩) n icap)) ∧ Hid (Below w.heap.size w wq) ∧ B1 ≤ wq.heap.size) (fun _ i _ => 2 * (n * 256) - (intOf i).toNat)
  case atStart => exact ⟨0, _, _, Nat.zero_le _, rfl, hid (lead_start _ _ _), hid (fun j a hj => by omega), O2, F7, c4, HB2, hs2⟩
  case round =>
    obtain ⟨k, rl, found, hk, rfl, HI, HD, HO, HF, HC, HB, hsB⟩ := hrel
    rename World => W0
    have hrl := lead_len HI.out
    obtain ⟨ao, cp, rfl⟩ := own_slice HO.out
    by_cases hlk : k < rl.length
    · obtain ⟨g1, rfl, hg1, hg1s, hcp⟩ := own_at' HO.out (by omega)
      obtain ⟨s, u, hs, hu, hrk⟩ : ∃ s u, s < n ∧ u < 256 ∧ rl[k]? = some (s * 256 + u) := by
        have h1 := (HI.out.sound _ (List.getElem_mem hlk)).1
        exact ⟨rl[k] / 256, rl[k] % 256, by omega, by omega, by rw [List.getElem?_eq_getElem hlk]; congr 1; omega⟩
      have y0 : W0.cell? ⟨g1, k * 2, none⟩ = some (.int .i64 (s : Nat)) := by
        rw [HO.out.cellAt (k * 2) (by omega), (flatSd_get hrk).1, show (s * 256 + u) / 256 = s by omega]
      have y1 : W0.cell? ⟨g1, k * 2 + 1, none⟩ = some (.int .u8 (u : Nat)) := by
        rw [HO.out.cellAt (k * 2 + 1) (by omega), (flatSd_get hrk).2, show (s * 256 + u) % 256 = u by omega]
      have hc := HC.out
      obtain ⟨aor, rcap, r1, r2⟩ := HW.out.row s hs
      have r1' := (HB.out.cell (p := ⟨gi, s, none⟩) hgi).trans r1
      have HR2 := hid r2
      have hln := HP.out.len s hs
      have HST := hid (HP.out.st s hs)
      have HRK := hid hrk
      clear r1 r2 hrk
      generalize hlnE : (into s).length = ln at *
      have HLN := hid hlnE
      clear hlnE
      have x1 : w.heap.size < W0.heap.size := by omega
      have x2 : gi < W0.heap.size := by omega
      have x3 : P < W0.heap.size := by omega
      have x4 : w.heap.size + 1 < W0.heap.size := by omega
      have dk : decide (n ≤ s) = false := by simp; omega
      go_wp2_with fail
      go_loopw [8, 43] (fun v i wq => ∃ (j : Nat) (rl : List Nat) (found : Nat → Bool), j ≤ ln ∧ i = .int .i64 j ∧ k < rl.length ∧ Hid (rl[k]? = some (s * 256 + u)) ∧ Hid (LeadI (Ew n ns into) (n * 256) goal rl found) ∧ Hid (DoneTo n ns into rl found k) ∧ Hid (DoneIn ns (into s) u found j) ∧ Hid (wq.ownsRow B1 199 2 v rl.length (flatSd rl)) ∧ Hid (v.ownBlock ≠ some W0.heap.size) ∧ Hid (FlatG wq (w.heap.size + 1) (n * 256) found) ∧ Hid (wq.cell? ⟨w.heap.size, 0, none⟩ = some (.slice (some ⟨gi, 0, none⟩) n icap)) ∧ Hid (wq.cell? ⟨W0.heap.size, 1, none⟩ = some (.int .u8 (u : Nat))) ∧ Hid (Below w.heap.size w wq) ∧ W0.heap.size < wq.heap.size) (fun _ i _ => ln - (intOf i).toNat)
      case atStart =>
        refine ⟨0, rl, found, Nat.zero_le _, rfl, hlk, HRK, HI, HD, hid (fun x st hx => by omega), hid (HO.out.alloc _), hid (by simp [Value.ownBlock]; omega), hid (HF.out.below ((Below.refl W0.heap.size W0).alloc (Nat.le_refl _) _) x4), hid (by rw [World.cell?_alloc_lt _ _ _ x1]; exact HC.out), hid (by simp), hid (HB.out.alloc (by omega) _), by simp⟩
      case round =>
        obtain ⟨j, rl, found, hj, rfl, hlk, HRK, HI, HD, HN, HO, HV, HF, HC, HU, HB, hsW⟩ := hrel
        rename World => W3
        by_cases hlj : j < ln
        · obtain ⟨gr, e, hgr, hcr⟩ := HR2.out (by omega)
          subst e
          obtain ⟨⟨fr, l⟩, hst⟩ : ∃ st, (into s)[j]? = some st := ⟨(into s)[j]'(by rw [HLN.out]; exact hlj), List.getElem?_eq_getElem (by rw [HLN.out]; exact hlj)⟩
          obtain ⟨hfr, hl⟩ := HST.out _ (List.mem_of_getElem? hst)
          have z := hcr j _ hst
          have z0 := (HB.out.cell (p := ⟨gr, j * 2, none⟩) hgr).trans z.1
          have z1 := (HB.out.cell (p := ⟨gr, j * 2 + 1, none⟩) hgr).trans z.2
          dsimp only at hfr hl z0 z1
          have bm := (HM.out.below HB.out hP) l u hl hu
          have hbv := bef_lt h8 l u
          have fc := HF.out.c (fr * 256 + bef ns l u) (by omega)
          have ff := HF.out.f (fr * 256 + bef ns l u) (by omega)
          have hcu := HU.out
          have HEW : Hid (Ew n ns into (fr * 256 + bef ns l u) (s * 256 + u)) := hid ⟨by omega, (fr, l), by rw [show (s * 256 + u) / 256 = s by omega]; exact List.mem_of_getElem? hst, by rw [show (s * 256 + u) % 256 = u by omega]⟩
          have HSTEP := hid (fun (f2 : Nat → Bool) (k : DoneIn ns (into s) u f2 j) (hf : f2 (fr * 256 + bef ns l u) = true) => k.step hst hf)
          have hN := ew_from h8 HP.out HEW.out
          have x5 : P < W3.heap.size := by omega
          have x6 : w.heap.size + 1 < W3.heap.size := by omega
          have x7 : gr < W3.heap.size := by omega
          have hrl2 := lead_len HI.out
          have bw := hid (((Below.refl W3.heap.size W3).alloc (Nat.le_refl _) (.cells #[.int .i64 (fr : Nat), .int .i64 (l : Nat)] 194)))
          obtain ⟨ao, cp, rfl⟩ := own_slice HO.out
          clear z hst hcr
          generalize bef ns l u = bv at *
          cases hfv : found (fr * 256 + bv) with
          | true =>
            have HN2 := hid (HSTEP.out found HN.out hfv)
            rw [hfv] at fc
            clear hfv HSTEP
            go_wp2_with fail
            go_quiet (fail)
            go_wp2_with fail
            go_roundw
            case rel =>
              have bd := below_drewN bw.out nq
              exact ⟨j + 1, rl, found, by omega, by go_num, hlk, HRK, HI, HD, HN2, hid (own_keeps HO.out bd), HV, hid (HF.out.below bd x6), hid ((bd.cell (p := ⟨w.heap.size, 0, none⟩) (by show w.heap.size < _; omega)).trans HC.out), hid ((bd.cell (p := ⟨W0.heap.size, 1, none⟩) hsW).trans HU.out), hid (HB.out.trans (bd.mono (by omega))), Nat.lt_of_lt_of_le hsW bd.size⟩
            case measure => simp [intOf]; omega
          | false =>
            rw [hfv] at fc
            go_wp2_with fail
            go_quiet (fail)
            go_wp2_with (at_builtin; go_must (refine wpList_append_lies _ rfl (.tmp 71) (.tmp 76) 196 rfl B1 199 i0 (.agg #[.int .i64 0, .int .u8 0]) 2 16 Try.underlying196 hi hz0 hz1 hz2 rfl (by decide) _ _ _ rfl ((own_set_other (own_keeps HO.out (below_drewN bw.out nq)) (k := w.heap.size + 1) (by omega) (fr * 256 + bv) (.bool true)).alloc _) ⟨W3.heap.size + 1, 0, none⟩ 1 1 [.int .i64 (fr : Nat), .int .u8 (bv : Nat)] rfl rfl ?c1 ?c2 (by decide) ?c3 ?c4 ?c5 (W3.heap.size + 2) ?c6 ?_))
            case c1 =>
              intro x y hx
              have := cell_two_new (((W3.alloc (.cells #[.int .i64 (fr : Nat), .int .i64 (l : Nat)] 194)).drewN nq).setCell ⟨w.heap.size + 1, fr * 256 + bv, none⟩ (.bool true)) (.int .i64 (fr : Nat)) (.int .u8 (bv : Nat)) 199 x y hx
              simpa using this
            case c2 => intro y hy; simp at hy; rcases hy with rfl | rfl <;> rfl
            case c3 => unfold maxLen; omega
            case c4 => omega
            case c5 => simp; omega
            case c6 => simp
            intro gg cc w5 hown hgrow hat hlt5
            have bd := below_drewN bw.out nq
            generalize hWd : (W3.alloc (.cells #[.int .i64 (fr : Nat), .int .i64 (l : Nat)] 194)).drewN nq = Wd at *
            have hsd : Wd.heap.size = W3.heap.size + 1 := by rw [← hWd]; simp
            clear hWd
            have FSt := (HF.out.below bd x6).set (fr * 256 + bv) true
            have bs : Below B1 (Wd.setCell ⟨w.heap.size + 1, fr * 256 + bv, none⟩ (.bool true)) w5 := ((Below.refl B1 _).alloc (by simp; omega) _).grown hgrow (by simp; omega) (fun k h => (HO.out.lt k h).1)
            have F5 := hid (FSt.below bs (by omega))
            have C5 : Hid (w5.cell? ⟨w.heap.size, 0, none⟩ = some (.slice (some ⟨gi, 0, none⟩) n icap)) := hid (by
              rw [bs.cell (p := ⟨w.heap.size, 0, none⟩) (by show w.heap.size < B1; omega), World.cell?_setCell_other _ _ _ _ (fun e => by have := congrArg Addr.block e; simp at this)]
              exact (bd.cell (p := ⟨w.heap.size, 0, none⟩) (by show w.heap.size < _; omega)).trans HC.out)
            have U5 : Hid (w5.cell? ⟨W0.heap.size, 1, none⟩ = some (.int .u8 (u : Nat))) := hid (by
              refine hgrow.cell ?_ (fun e => HV.out e.symm)
              rw [World.cell?_alloc_lt _ _ _ (by simp; omega), World.cell?_setCell_other _ _ _ _ (fun e => by have := congrArg Addr.block e; simp at this; omega)]
              exact (bd.cell (p := ⟨W0.heap.size, 1, none⟩) hsW).trans HU.out)
            have B5 := hid (((HB.out.trans (bd.mono (by omega))).setCell (p := ⟨w.heap.size + 1, fr * 256 + bv, none⟩) (by show w.heap.size ≤ w.heap.size + 1; omega) (.bool true)).trans (bs.mono (by omega)))
            have V5 : Hid ((Value.slice (some ⟨gg, 0, none⟩) (rl.length + 1) cc).ownBlock ≠ some W0.heap.size) := hid (by
              rcases hat with h | h
              · have h2 := HV.out
                rw [h] at h2
                exact h2
              · subst h
                simp [Value.ownBlock]; omega)
            have hz5 : W0.heap.size < w5.heap.size := by
              have := hgrow.size
              simp at this
              omega
            have HO5 : Hid (w5.ownsRow B1 199 2 (.slice (some ⟨gg, 0, none⟩) (rl.length + 1) cc) (rl ++ [fr * 256 + bv]).length (flatSd (rl ++ [fr * 256 + bv]))) := hid (by
              rw [List.length_append, flatSd_snoc, show (fr * 256 + bv) / 256 = fr by omega, show (fr * 256 + bv) % 256 = bv by omega]
              exact hown)
            have HI5 := hid (lead_add HI.out (List.mem_of_getElem? HRK.out) HEW.out hN hfv)
            have HD5 := hid (HD.out.add hlk (fr * 256 + bv))
            have HN5 := hid (HSTEP.out _ (HN.out.add (fr * 256 + bv)) (upd_same _ _ _))
            have HR5 : Hid ((rl ++ [fr * 256 + bv])[k]? = some (s * 256 + u)) := hid (by rw [List.getElem?_append_left hlk]; exact HRK.out)
            clear hown hgrow hat bs bd FSt hfv HSTEP fc ff hcu z0 z1 bm
            go_wp2_with fail
            go_roundw
            case rel => exact ⟨j + 1, rl ++ [fr * 256 + bv], upd found (fr * 256 + bv) true, by omega, by go_num, by simp; omega, HR5, HI5, HD5, HN5, HO5, V5, F5, C5, U5, B5, hz5⟩
            case measure => simp [intOf]; omega
        · obtain rfl : j = ln := by omega
          have HD2 := hid (done_next HD.out HRK.out hu (by rw [HLN.out]; exact HN.out))
          go_wp2_with fail
          go_roundw
          case rel => exact ⟨k + 1, rl, found, by omega, by go_num, HI, HD2, HO, HF, HC, HB, by omega⟩
          case measure => have := lead_len HI.out; simp [intOf]; omega
    · obtain rfl : k = rl.length := by omega
      have HR := hid (lead_done (fun a b h => ew_lt a b h) HI.out (fun a ha y hy => by
        obtain ⟨j, hj, e⟩ := List.getElem_of_mem ha
        exact HD.out j a hj (by rw [List.getElem?_eq_getElem hj, e]) y hy))
      go_wp2_with fail
      go_ret
      exact ⟨_, found, rfl, by omega, by omega, HF.out, HR.out, HB.out⟩

end Go.Proofs.Ytafcflimjicpkaa
