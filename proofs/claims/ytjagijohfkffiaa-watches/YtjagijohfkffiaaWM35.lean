import Derived.Test.YtjagijohfkffiaaWM27
import Derived.Test.YtjagijohfkffiaaWM34

/- The walk of the reference's full. -/
namespace Go.Proofs.Ytjagijohfkffiaa
open Go.RowKit
set_option linter.unusedVariables false

/-- The eight numbers of a state. -/
def nxR (xs : List Nat) (i : Nat) : List Nat := (List.range 8).map fun a => xs.getD (8 * i + a) 0
theorem nxR_len (xs : List Nat) (i : Nat) : (nxR xs i).length = 8 := by simp [nxR]
theorem nxR_at (xs : List Nat) {i a : Nat} (ha : a < 8) : atN (nxR xs i) a = nxL xs i a := by simp [atN, nxR, nxL, List.getD, ha]
theorem nxR_more {xs : List Nat} {i j : Nat} (h : 8 * i + 8 ≤ xs.length) : nxR (xs ++ [j]) i = nxR xs i := by
  unfold nxR
  refine List.map_congr_left fun a ha => ?_
  have : a < 8 := by simpa using ha
  exact getD_snoc_lt (by omega)
theorem nxR_drop {xs : List Nat} {k : Nat} (h : xs.length = 8 * k + 8) : xs.drop (8 * k) = nxR xs k := by
  apply List.ext_getElem
  · simp [nxR]; omega
  · intro i h1 h2
    simp at h1
    simp [nxR, List.getD, List.getElem?_eq_getElem (show 8 * k + i < xs.length by omega)]

/-- What full hands back, as far as it is read again. -/
structure FullR (w : World) (P K : Nat) (out : Nat → Nat) (nx : Nat → List Nat) : Prop where
  lt : P < w.heap.size
  c0 : ∃ ao cap, w.cell? ⟨P, 0, none⟩ = some (.slice ao K cap)
  c1 : ∃ v, w.cell? ⟨P, 1, none⟩ = some v ∧ NR w v ((List.range K).map out)
  c2 : ∃ v, w.cell? ⟨P, 2, none⟩ = some v ∧ NRs w v K nx
theorem FullR.below {w w' : World} {P K : Nat} {out : Nat → Nat} {nx : Nat → List Nat} (h : FullR w P K out nx) (hb : Below w.heap.size w w') : FullR w' P K out nx := by
  obtain ⟨ao, cap, h0⟩ := h.c0
  obtain ⟨v1, a1, b1⟩ := h.c1
  obtain ⟨v2, a2, b2⟩ := h.c2
  exact ⟨Nat.lt_of_lt_of_le h.lt hb.size, ⟨ao, cap, (hb.cell (p := ⟨P, 0, none⟩) h.lt).trans h0⟩, ⟨v1, (hb.cell (p := ⟨P, 1, none⟩) h.lt).trans a1, b1.below hb⟩, ⟨v2, (hb.cell (p := ⟨P, 2, none⟩) h.lt).trans a2, b2.below hb⟩⟩

def yrs (ns : List Nd) (vs : List Nat) (u : List Nat) : (Nat → Bool) × (Nat → Bool) := (yr ns vs true u, yr ns vs false u)
def outL (ns : List Nd) (liv : Nat → Bool) (us : List (List Nat)) : List Nat := us.map fun u => verdG liv (runG ns liv (begB ns liv) u)
theorem outL_range (ns : List Nd) (liv : Nat → Bool) (us : List (List Nat)) : outL ns liv us = (List.range us.length).map (outU ns liv (begB ns liv) us) := by
  unfold outL
  apply List.ext_getElem
  · simp
  · intro i h1 h2
    simp at h1
    simp [outU, List.getD, List.getElem?_eq_getElem h1]

/-- What at has told, by words. -/
theorem ated_expl {ns : List Nd} (hg : Good ns) {liv : Nat → Bool} (hl : LivP ns (calmsTo ns ns.length) liv) {vs : List Nat} (hL : LiveSets ns vs.length (mOf vs)) {us : List (List Nat)} {xs : List Nat} (hE : Expl ns liv (begB ns liv) us xs) {u0 : List Nat} (h0 : us[xs.length / 8]? = some u0) {j : Nat} {rs rs' : List (Nat × Nat)} (hrs : rs.length = us.length) {outs' : List Nat} {fs' : List ((Nat → Bool) × (Nat → Bool))} {by_ bn : Nat}
    (h : (rs' = rs ∧ fs' = us.map (yrs ns vs) ∧ outs' = outL ns liv us ∧ ∃ p, (us.map (yrs ns vs))[j]? = some p ∧ (∀ i, i < vs.length → p.1 i = onTo ns vs (yr ns vs true u0) (xs.length % 8) vs.length i)) ∨
     (j = rs.length ∧ rs' = rs ++ [(by_, bn)] ∧ fs' = us.map (yrs ns vs) ++ [(onTo ns vs (yr ns vs true u0) (xs.length % 8) vs.length, onTo ns vs (yr ns vs false u0) (xs.length % 8) vs.length)] ∧ outs' = outL ns liv us ++ [toldB (noneB (onTo ns vs (yr ns vs true u0) (xs.length % 8) vs.length) vs.length) (noneB (onTo ns vs (yr ns vs false u0) (xs.length % 8) vs.length) vs.length)] ∧ ∀ p ∈ us.map (yrs ns vs), ¬ ((∀ i, i < vs.length → p.1 i = onTo ns vs (yr ns vs true u0) (xs.length % 8) vs.length i) ∧ ∀ i, i < vs.length → p.2 i = onTo ns vs (yr ns vs false u0) (xs.length % 8) vs.length i))) :
    ∃ us', (∃ more, us' = us ++ more) ∧ Expl ns liv (begB ns liv) us' (xs ++ [j]) ∧ fs' = us'.map (yrs ns vs) ∧ outs' = outL ns liv us' ∧ rs'.length = us'.length := by
  have hu0 := hE.let8 u0 (List.mem_of_getElem? h0)
  have ha : xs.length % 8 < 8 := Nat.mod_lt _ (by omega)
  rcases h with ⟨rfl, rfl, rfl, p, hp, hq⟩ | ⟨rfl, rfl, rfl, rfl, hall⟩
  · rw [List.getElem?_map, Option.map_eq_some_iff] at hp
    obtain ⟨u1, h1, rfl⟩ := hp
    refine ⟨us, ⟨[], by simp⟩, expl_old hE h0 h1 ?_, rfl, rfl, hrs⟩
    exact (rows_step hg hl hL ha (hE.let8 u1 (List.mem_of_getElem? h1)) hu0 true).1 hq
  · refine ⟨us ++ [u0 ++ [xs.length % 8]], ⟨_, rfl⟩, ?_, ?_, ?_, by simp [hrs]⟩
    · rw [hrs]
      refine expl_new hE h0 fun u hu => ?_
      cases e : geq (runG ns liv (begB ns liv) u) (stepG ns liv (runG ns liv (begB ns liv) u0) (xs.length % 8)) with
      | false => rfl
      | true =>
        have hu8 := hE.let8 u hu
        exact absurd ⟨(rows_step hg hl hL ha hu8 hu0 true).2 e, (rows_step hg hl hL ha hu8 hu0 false).2 e⟩ (hall _ (List.mem_map.2 ⟨u, hu, rfl⟩))
    · rw [List.map_append]
      simp only [List.map_cons, List.map_nil, yrs, yr_snoc]
    · unfold outL
      rw [List.map_append]
      simp only [List.map_cons, List.map_nil]
      rw [← yr_snoc, ← yr_snoc, told_verd hg hl hL (fun x hx => by
        rcases List.mem_append.1 hx with hx | hx
        · exact hu0 x hx
        · simp at hx; omega)]

/-- A grown row changes no row of another kind. -/
theorem FuM.grown {w w' : World} {B T M : Nat} {vS vO vN : Value} {rs : List (Nat × Nat)} {fs : List ((Nat → Bool) × (Nat → Bool))} {outs : List Nat} (h : FuM w B T M vS vO vN rs fs outs) {B2 e2 s2 n2 : Nat} {v2 : Value} {ys : List Value} (h2 : w.ownsRow B2 e2 s2 v2 n2 ys) (hg : w.grownBy w' v2.ownBlock) (hT : v2.ownBlock ≠ some T) (h1 : 156 ≠ e2) (h3 : 4 ≠ e2) (h4 : vO.ownBlock = none ∨ vO.ownBlock ≠ v2.ownBlock) : FuM w' B T M vS vO vN rs fs outs := by
  have hb := hg.block T h.t.lt (fun e => hT e.symm)
  have hc : ∀ o, w'.cell? ⟨T, o, none⟩ = w.cell? ⟨T, o, none⟩ := fun o => World.cell?_of_block (a := ⟨T, o, none⟩) hb
  have hf : ∀ o, w'.frozen? ⟨T, o, none⟩ = w.frozen? ⟨T, o, none⟩ := fun o => World.frozen?_of_block (a := ⟨T, o, none⟩) hb
  exact ⟨⟨(hc 0).trans h.t.c0, (hc 1).trans h.t.c1, (hc 2).trans h.t.c2, fun o ho => (hf o).trans (h.t.fz o ho)⟩, h.tB, h.len, h.olen, h.st.kept hg (own_ne' h.st h2 h1), h.ou.kept hg h4, fun i p q a b => ⟨(h.row i p q a b).1.kept hg (own_ne' (h.row i p q a b).1 h2 h3), (h.row i p q a b).2.kept hg (own_ne' (h.row i p q a b).2 h2 h3)⟩⟩
theorem FuM.set2 {w : World} {B T M : Nat} {vS vO vN : Value} {rs : List (Nat × Nat)} {fs : List ((Nat → Bool) × (Nat → Bool))} {outs : List Nat} (h : FuM w B T M vS vO vN rs fs outs) (v : Value) : FuM (w.setCell ⟨T, 2, none⟩ v) B T M vS vO v rs fs outs :=
  ⟨h.t.set2 v, h.tB, h.len, h.olen, own_set_other h.st h.tB 2 v, own_set_other h.ou h.tB 2 v, fun i p q a b => ⟨own_set_other (h.row i p q a b).1 h.tB 2 v, own_set_other (h.row i p q a b).2 h.tB 2 v⟩⟩
theorem Rws.kb {w w' : World} {B e e' j T : Nat} {r1 r2 : Option Nat} {v : Value} {V : Nat → Value} {xs : Nat → List Value} (h : Rws w B e e' v j V xs) (f : KB w w' T r1 r2) (hT : T < B) (h1 : v.ownBlock = none ∨ v.ownBlock ≠ r1) (h2 : v.ownBlock = none ∨ v.ownBlock ≠ r2) (h3 : ∀ i, i < j → (V i).ownBlock = none ∨ (V i).ownBlock ≠ r1) (h4 : ∀ i, i < j → (V i).ownBlock = none ∨ (V i).ownBlock ≠ r2) : Rws w' B e e' v j V xs :=
  ⟨own_kb h.out f (fun e => by have := (h.out.lt _ e).1; omega) h1 h2, fun i hi => own_kb (h.row i hi) f (fun e => by have := ((h.row i hi).lt _ e).1; omega) (h3 i hi) (h4 i hi)⟩
theorem Rws.keptI {w w' : World} {B e e' j : Nat} {v : Value} {V : Nat → Value} {xs : Nat → List Value} {r : Option Nat} (h : Rws w B e e' v j V xs) (hg : w.grownBy w' r) (h1 : v.ownBlock = none ∨ v.ownBlock ≠ r) (h3 : ∀ i, i < j → (V i).ownBlock = none ∨ (V i).ownBlock ≠ r) : Rws w' B e e' v j V xs :=
  ⟨h.out.kept hg h1, fun i hi => (h.row i hi).kept hg (h3 i hi)⟩

def Fulled (ns : List Nd) (liv : Nat → Bool) (w : World) (e : Ending) (w' : World) : Prop :=
  ∃ us xs, e = .returned (.pointer (some ⟨w.heap.size, 0, none⟩)) ∧ Expl ns liv (begB ns liv) us xs ∧ xs.length = 8 * us.length ∧ FullR w' w.heap.size us.length (outU ns liv (begB ns liv) us) (nxR xs) ∧ Below w.heap.size w w'

set_option maxHeartbeats 8000000 in
set_option maxRecDepth 100000 in
theorem full_any (R F gp cap : Nat) (ns : List Nd) (bs vs : List Nat) (liv : Nat → Bool) (w : World) (h : RowsM w R F gp cap ns bs vs) (hg : Good ns) (hM : vs.length ≤ 256) (hl : LivP ns (calmsTo ns ns.length) liv) (hL : LiveSets ns vs.length (mOf vs)) (hfew : ∀ us xs, Expl ns liv (begB ns liv) us xs → us.length ≤ 796594185) :
    Calls Try.prog 64 #[.pointer (some ⟨R, 0, none⟩)] w (Fulled ns liv w) := by
  have hR := h.lt
  have HR := hid h
  have HG := hid hg
  have HL := hid hL
  have HLV := hid hl
  have HFEW := hid hfew
  obtain ⟨i0, hi, hz0, hz1, hz2⟩ := info_parts Try.infoIntE
  obtain ⟨i1, hi1, hz01, hz11, hz21⟩ := info_parts Try.infoIntL
  clear h hg hl hL hfew
  go_enter Try.func64, Try.ntmps64
  go_wp2_with fail
  have ba := (Below.refl w.heap.size w).alloc (Nat.le_refl _) (.cells #[.slice none 0 0, .slice none 0 0, .slice none 0 0] 102)
  have T1 := three_new w (.slice none 0 0) (.slice none 0 0) (.slice none 0 0) 102
  refine (whole_own R F gp cap ns bs vs true _ (HR.out.below ba) HG.out hM).mono ?_
  rintro e w1 ⟨ga, rfl, -, hga, hb1, o1⟩
  simp only [World.size_alloc] at hga hb1 o1
  have T2 := T1.below hb1 (by omega)
  have HB1 := ba.trans (hb1.mono (by omega))
  have hs1 := hb1.size
  simp only [World.size_alloc] at hs1
  go_wp2_with fail
  refine (whole_own R F gp cap ns bs vs false _ (HR.out.below HB1) HG.out hM).mono ?_
  rintro e w2 ⟨gb, rfl, -, hgb, hb2, o2⟩
  have T3 := T2.below hb2 (by omega)
  have HB2 := hid (HB1.trans (hb2.mono (by omega)))
  have hs2 := hb2.size
  have o1' := own_keeps (own_mono o1 (show w.heap.size + 1 ≤ w.heap.size + 1 by omega)) hb2
  have o2' := own_mono o2 (show w.heap.size + 1 ≤ w1.heap.size by omega)
  have FM : FuM w2 (w.heap.size + 1) w.heap.size vs.length (.slice none 0 0) (.slice none 0 0) (.slice none 0 0) [] [] [] := ⟨T3, by omega, rfl, rfl, World.ownsRow_nil _ _ _ _, World.ownsRow_nil _ _ _ _, fun i p q h => by simp at h⟩
  clear ba T1 T2 T3 HB1 hb1 hb2 o1 o2
  go_wp2_with fail
  refine (fat_any w2 (w.heap.size + 1) w.heap.size vs.length _ _ _ [] [] [] ga gb _ _ FM (by omega) (by simp) (by omega) o1' o2').mono ?_
  rintro e w3 ⟨j, vS3, vO3, rs3, fs3, outs3, rfl, FM3, K3, hvO3, hcase⟩
  obtain ⟨rfl, rfl, rfl, rfl, hnew⟩ : j = 0 ∧ rs3 = [(ga, gb)] ∧ fs3 = [[]].map (yrs ns vs) ∧ outs3 = outL ns liv [[]] ∧ True := by
    rcases hcase with ⟨_, _, _, p, hp, _⟩ | ⟨rfl, rfl, rfl, rfl, _⟩
    · simp at hp
    · refine ⟨rfl, rfl, rfl, ?_, trivial⟩
      have := told_verd HG.out HLV.out HL.out (u := []) (fun x hx => by simp at hx)
      simp only [outL, List.map_cons, List.map_nil, List.nil_append, ← this]
      rfl
  have HB3 := hid (below_kb HB2.out K3 (by omega) (Nat.le_refl _) (fun k h => by simp [Value.ownBlock] at h) (fun k h => by simp [Value.ownBlock] at h))
  have FM3 := hid FM3
  have hs3 := K3.size
  clear hcase K3 hvO3 FM o1' o2' HB2 hnew
  go_wp2_with fail
  go_loopw [6] (fun i wq => ∃ (k : Nat) (us : List (List Nat)) (xs : List Nat) (vS vO vN : Value) (rs : List (Nat × Nat)) (V : Nat → Value), i = .int .i64 k ∧ k ≤ us.length ∧ xs.length = 8 * k ∧ rs.length = us.length ∧ Hid (Expl ns liv (begB ns liv) us xs) ∧ Hid (FuM wq (w.heap.size + 1) w.heap.size vs.length vS vO vN rs (us.map (yrs ns vs)) (outL ns liv us)) ∧ Hid (Rws wq (w.heap.size + 1) 27 3 vN k V (fun q => nInts (nxR xs q))) ∧ Hid (∀ i, i < k → (V i).ownBlock ≠ vO.ownBlock) ∧ Hid (Below w.heap.size w wq) ∧ w.heap.size + 1 ≤ wq.heap.size) (fun i _ => 796594190 - (intOf i).toNat)
  case atStart => exact ⟨0, [[]], [], vS3, vO3, _, _, fun _ => .slice none 0 0, rfl, by simp, rfl, rfl, hid expl_start, FM3, hid (rws_nil _ _ _ _ _ _), hid (fun i h => by omega), HB3, by omega⟩
  case round =>
    obtain ⟨k, us, xs, vS, vO, vN, rs, V, rfl, hk, hxl, hrs, HE, HF, HN, HD, HB, hsz⟩ := hrel
    rename World => W0
    clear HB3 FM3
    have hfw := HFEW.out us xs HE.out
    have t0 := HF.out.t.c0
    have stO := HF.out.st
    rw [hrs] at stO
    obtain ⟨aoS, cpS, rfl⟩ := own_slice stO
    by_cases hlk : k < us.length
    · obtain ⟨u0, hu0⟩ : ∃ u0, us[k]? = some u0 := ⟨us[k], List.getElem?_eq_getElem hlk⟩
      have HU0 := hid hu0
      have HVB := hid (fun i (hi : i < k) q (h : (V i).ownBlock = some q) => ((HN.out.row i hi).lt q h).2)
      clear stO hu0
      go_wp2_with fail
      go_loopw [7, 8] (fun vL i wq => ∃ (l : Nat) (us : List (List Nat)) (xs : List Nat) (vS vO : Value) (rs : List (Nat × Nat)), i = .int .i64 l ∧ l ≤ 8 ∧ xs.length = 8 * k + l ∧ rs.length = us.length ∧ Hid (us[k]? = some u0) ∧ Hid (Expl ns liv (begB ns liv) us xs) ∧ Hid (FuM wq (w.heap.size + 1) w.heap.size vs.length vS vO vN rs (us.map (yrs ns vs)) (outL ns liv us)) ∧ Hid (Rws wq (w.heap.size + 1) 27 3 vN k V (fun q => nInts (nxR xs q))) ∧ Hid (∀ i, i < k → (V i).ownBlock ≠ vO.ownBlock) ∧ Hid (wq.ownsRow W0.heap.size 3 1 vL l (nInts (xs.drop (8 * k)))) ∧ Hid (vL.ownBlock = none ∨ vL.ownBlock ≠ vO.ownBlock) ∧ Hid (Below w.heap.size w wq) ∧ W0.heap.size ≤ wq.heap.size) (fun _ i _ => 8 - (intOf i).toNat)
      case atStart => exact ⟨0, us, xs, _, _, rs, rfl, by omega, by omega, hrs, HU0, HE, HF, HN, HD, by rw [List.drop_of_length_le (by omega)]; exact hid (World.ownsRow_nil _ _ _ _), hid (Or.inl rfl), HB, Nat.le_refl _⟩
      case round =>
        obtain ⟨l, us, xs, vS, vO, rs, rfl, hl8, hxl, hrs, HU0, HE, HF, HN, HD, HLs, HLO, HB, hsW⟩ := hrel
        rename World => W3
        clear t0
        have stO := HF.out.st
        rw [hrs] at stO
        obtain ⟨aoS2, cpS2, rfl⟩ := own_slice stO
        by_cases hll : l < 8
        · have hku := (List.getElem?_eq_some_iff.1 HU0.out).1
          have hfw := HFEW.out us xs HE.out
          obtain ⟨gS, rfl, hgS, hgSs, hcS⟩ := own_at' stO (by omega)
          obtain ⟨⟨p1, p2⟩, hp⟩ : ∃ p, rs[k]? = some p := ⟨rs[k]'(by rw [hrs]; exact hku), List.getElem?_eq_getElem (by rw [hrs]; exact hku)⟩
          have t0 := HF.out.t.c0
          have y0 : W3.cell? ⟨gS, k * 2, none⟩ = some (.slice (some ⟨p1, 0, none⟩) vs.length vs.length) := by rw [stO.cellAt (k * 2) (by omega), (flatRP_get hp).1]
          have y1 : W3.cell? ⟨gS, k * 2 + 1, none⟩ = some (.slice (some ⟨p2, 0, none⟩) vs.length vs.length) := by rw [stO.cellAt (k * 2 + 1) (by omega), (flatRP_get hp).2]
          obtain ⟨o1, o2⟩ := HF.out.row k (p1, p2) (yrs ns vs u0) hp (by rw [List.getElem?_map, HU0.out]; rfl)
          dsimp only [yrs] at o1 o2
          have hTW : w.heap.size < W3.heap.size := HF.out.t.lt
          have HRB1 := hid (own_rb o1)
          have HRB2 := hid (own_rb o2)
          clear stO hp o1 o2
          go_wp2_with fail
          refine (on_own R F gp cap p1 l ns bs vs (yr ns vs true u0) W3 (HR.out.below HB.out) HG.out hM hll HRB1.out).mono ?_
          rintro e w4 ⟨gy, rfl, -, hgy, hb4, o4⟩
          have t04 := (hb4.cell (p := ⟨w.heap.size, 0, none⟩) hTW).trans t0
          have y14 := (hb4.cell (p := ⟨gS, k * 2 + 1, none⟩) hgSs).trans y1
          have hs4 := hb4.size
          have HB4 := hid (HB.out.trans (hb4.mono HB.out.size))
          have HBB4 := hid hb4
          have O4 := hid o4
          clear y0 y1 t0 hb4 o4
          go_wp2_with fail
          refine (on_own R F gp cap p2 l ns bs vs (yr ns vs false u0) w4 (HR.out.below HB4.out) HG.out hM hll (HRB2.out.below HBB4.out)).mono ?_
          rintro e w5 ⟨gn, rfl, -, hgn, hb5, o5⟩
          have hs5 := hb5.size
          have bb := HBB4.out.trans (hb5.mono hs4)
          have F5 := HF.out.below bb
          have N5 := HN.out.keeps bb
          have L5 := own_keeps HLs.out bb
          have HB5 := HB4.out.trans (hb5.mono HB4.out.size)
          have O45 := own_keeps (own_mono O4.out (show w.heap.size + 1 ≤ W3.heap.size by omega)) hb5
          have O55 := own_mono o5 (show w.heap.size + 1 ≤ w4.heap.size by omega)
          have F5 := hid F5
          have N5 := hid N5
          have L5 := hid L5
          have HB5 := hid HB5
          have O45 := hid O45
          have O55 := hid O55
          clear hb5 o5 bb HF HN HLs HB HB4 HBB4 O4 HRB1 HRB2 t04 y14
          have hxm : xs.length / 8 = k ∧ xs.length % 8 = l := by omega
          go_wp2_with fail
          refine (fat_any w5 (w.heap.size + 1) w.heap.size vs.length _ _ _ rs _ _ gy gn _ _ F5.out (by omega) (by omega) (by omega) O45.out O55.out).mono ?_
          rintro e w6 ⟨j, vS6, vO6, rs6, fs6, outs6, rfl, FM6, K6, hvO6, hcase⟩
          obtain ⟨us6, ⟨more, hmore⟩, hE6, rfl, rfl, hrs6⟩ := ated_expl HG.out HLV.out HL.out HE.out (u0 := u0) (by rw [hxm.1]; exact HU0.out) (j := j) (rs := rs) (rs' := rs6) hrs (outs' := outs6) (fs' := fs6) (by_ := gy) (bn := gn) (by rw [hxm.2]; exact hcase)
          have hu6 : us6[k]? = some u0 := by rw [hmore, List.getElem?_append_left hku]; exact HU0.out
          have vNe : vN.ownBlock = none ∨ vN.ownBlock ≠ (Value.slice (some ⟨gS, 0, none⟩) us.length cpS2).ownBlock := by
            have h9 := F5.out.st
            exact own_ne' N5.out.out h9 (by decide)
          have vNo : vN.ownBlock = none ∨ vN.ownBlock ≠ vO.ownBlock := own_ne' N5.out.out F5.out.ou (by decide)
          have N6 := N5.out.kb K6 (by omega) vNe vNo (fun i hi => own_ne' (N5.out.row i hi) F5.out.st (by decide)) (fun i hi => Or.inr (HD.out i hi))
          have hLT : u7.ownBlock ≠ some w.heap.size := fun e => by have := (L5.out.lt _ e).1; omega
          have L6 := own_kb L5.out K6 hLT (own_ne' L5.out F5.out.st (by decide)) HLO.out
          have hVlt := hid (fun i (hi : i < k) q (h : (V i).ownBlock = some q) => ((N5.out.row i hi).lt q h).2)
          have D6 : ∀ i, i < k → (V i).ownBlock ≠ vO6.ownBlock := fun i hi e => by
            rcases hvO6 with h | ⟨q, h, hq⟩
            · exact HD.out i hi (by rw [e, h])
            · rw [h] at e
              have := hVlt.out i hi q e
              omega
          have LO6 : u7.ownBlock = none ∨ u7.ownBlock ≠ vO6.ownBlock := by
            rcases HLO.out with h | h
            · exact Or.inl h
            · refine Or.inr fun e => ?_
              rcases hvO6 with h2 | ⟨q, h2, hq⟩
              · exact h (by rw [e, h2])
              · rw [h2] at e
                have := (L5.out.lt q e).2
                omega
          have HB6 := hid (below_kb HB5.out K6 HB5.out.size (Nat.le_refl _) (fun q h => by have := (F5.out.st.lt q h).1; omega) (fun q h => by have := (F5.out.ou.lt q h).1; omega))
          have hs6 := K6.size
          have F6 := hid FM6
          have N6 := hid N6
          have L6 := hid L6
          have D6 := hid D6
          have LO6 := hid LO6
          have HE6 := hid hE6
          have HU6 := hid hu6
          have hj6 : j < us6.length := by
            obtain ⟨_, u1, _, h9, _⟩ := hE6.ok xs.length (by simp)
            rw [getD_snoc_eq] at h9
            exact (List.getElem?_eq_some_iff.1 h9).1
          have hfw6 := HFEW.out us6 _ hE6
          clear FM6 K6 hvO6 hcase hE6 hu6 F5 N5 L5 HB5 O45 O55 HD HLO vNe vNo HE HU0 hmore
          obtain ⟨aoL, cpL, rfl⟩ := own_slice L6.out
          have HLB := hid (fun q h => (L6.out.lt q h).1)
          go_wp2_with (at_builtin; go_must (refine wpList_append_lies _ rfl (.tmp 63) (.tmp 65) 27 rfl W0.heap.size 3 i0 (.int .i64 0) 1 8 Try.underlying27 hi hz0 hz1 hz2 rfl (by decide) _ l (nInts (xs.drop (8 * k))) rfl (L6.out.alloc _) ⟨w6.heap.size, 0, none⟩ 1 1 [.int .i64 (j : Nat)] rfl rfl (cells_put w6 [.int .i64 (j : Nat)] _) (by intro y hy; simp at hy; rcases hy with rfl; rfl) (by decide) (by unfold maxLen; omega) (by omega) (by simp; omega) (w6.heap.size + 1) (by simp) ?_))
          intro gg cc w7 hown hgrow hat hlt7
          have b6 := (Below.refl w6.heap.size w6).alloc (Nat.le_refl _) (.cells #[.int .i64 (j : Nat)] 3)
          have hs7 : w6.heap.size ≤ w7.heap.size := by
            have := hgrow.size
            simp at this
            omega
          have hLT2 : (Value.slice aoL l cpL).ownBlock ≠ some w.heap.size := hLT
          have F7 := hid ((F6.out.below b6).grown (L6.out.alloc (.cells #[.int .i64 (j : Nat)] 3)) hgrow hLT2 (by decide) (by decide) (by
            rcases LO6.out with h | h
            · rw [h]
              cases vO6.ownBlock <;> simp
            · exact Or.inr fun e => h e.symm))
          have hVL : ∀ i, i < k → (V i).ownBlock = none ∨ (V i).ownBlock ≠ (Value.slice aoL l cpL).ownBlock := fun i hi => by
            cases hv : (V i).ownBlock with
            | none => exact Or.inl rfl
            | some q =>
              refine Or.inr fun e => ?_
              have h1 := HLB.out q e.symm
              have h2 := HVB.out i hi q hv
              omega
          have N7 := ((N6.out.keeps b6).keptI hgrow (own_ne' (N6.out.keeps b6).out (L6.out.alloc (.cells #[.int .i64 (j : Nat)] 3)) (by decide)) hVL)
          have N7 : Hid (Rws w7 (w.heap.size + 1) 27 3 vN k V (fun q => nInts (nxR (xs ++ [j]) q))) := hid ⟨N7.out, fun i hi => by
            rw [nxR_more (by omega)]
            exact N7.row i hi⟩
          have L7 : Hid (w7.ownsRow W0.heap.size 3 1 (.slice (some ⟨gg, 0, none⟩) (l + 1) cc) (l + 1) (nInts ((xs ++ [j]).drop (8 * k)))) := hid (by
            rw [List.drop_append_of_le_length (by omega), show nInts (xs.drop (8 * k) ++ [j]) = nInts (xs.drop (8 * k)) ++ [.int .i64 (j : Nat)] by simp [nInts]]
            exact hown)
          have LO7 : Hid ((Value.slice (some ⟨gg, 0, none⟩) (l + 1) cc).ownBlock = none ∨ (Value.slice (some ⟨gg, 0, none⟩) (l + 1) cc).ownBlock ≠ vO6.ownBlock) := hid (Or.inr fun e => by
            have e2 : vO6.ownBlock = some gg := e.symm
            rcases hat with h | h
            · rcases LO6.out with h2 | h2
              · rw [h] at h2; cases h2
              · exact h2 (by rw [h, e2])
            · have := (F6.out.ou.lt gg e2).2
              omega)
          have HB7 := hid ((HB6.out.alloc (by omega) (.cells #[.int .i64 (j : Nat)] 3)).grown hgrow (by simp; omega) (fun q h => by have := HLB.out q h; omega))
          clear hown hgrow hat b6 F6 N6 L6 LO6 HB6 hVL hLT2 hLT
          go_wp2_with fail
          go_roundw
          case rel => exact ⟨l + 1, us6, xs ++ [j], vS6, vO6, rs6, by go_num, by omega, by rw [List.length_append, List.length_singleton]; omega, hrs6, HU6, HE6, F7, N7, D6, L7, LO7, HB7, by omega⟩
          case measure => simp [intOf]; omega
        · obtain rfl : l = 8 := by omega
          have hku := (List.getElem?_eq_some_iff.1 HU0.out).1
          have hfw := HFEW.out us xs HE.out
          have t2 := HF.out.t.c2
          obtain ⟨aoL, cpL, rfl⟩ := own_slice HLs.out
          obtain ⟨aoN, cpN, rfl⟩ := own_slice HN.out.out
          have hTW : w.heap.size < W3.heap.size := HF.out.t.lt
          have b6 := (Below.refl W3.heap.size W3).alloc (Nat.le_refl _) (.cells #[.slice aoL 8 cpL] 27)
          go_wp2_with (at_builtin; go_must (refine wpList_append_lies _ rfl (.tmp 71) (.tmp 73) 44 rfl (w.heap.size + 1) 27 i1 (.slice none 0 0) 1 24 Try.underlying44 hi1 hz01 hz11 hz21 rfl (by decide) _ k ((List.range k).map V) rfl (HN.out.out.alloc _) ⟨W3.heap.size, 0, none⟩ 1 1 [.slice aoL 8 cpL] rfl rfl (cells_put W3 [.slice aoL 8 cpL] _) (by intro y hy; simp at hy; rcases hy with rfl; rfl) (by decide) (by unfold maxLen; omega) (by omega) (by simp; omega) (W3.heap.size + 1) (by simp) ?_))
          intro gg cc w7 hown hgrow hat hlt7
          have hs7 : W3.heap.size ≤ w7.heap.size := by
            have := hgrow.size
            simp at this
            omega
          have hNT : (Value.slice aoN k cpN).ownBlock ≠ some w.heap.size := fun e => by have := (HN.out.out.lt _ e).1; omega
          have hggT : gg ≠ w.heap.size := by
            rcases hat with h | h
            · exact fun e => hNT (by rw [← e]; exact h)
            · omega
          have OLa := (own_mono HLs.out (show w.heap.size + 1 ≤ W0.heap.size by omega)).alloc (.cells #[.slice aoL 8 cpL] 27)
          have hl8e : (nInts (nxR xs k)).length = 8 := by rw [nInts_len, nxR_len]
          rw [nxR_drop (by omega)] at OLa
          have F7 := (HF.out.below b6).grown (HN.out.out.alloc (.cells #[.slice aoL 8 cpL] 27)) hgrow hNT (by decide) (by decide) (own_ne' (own_keeps HF.out.ou b6) (HN.out.out.alloc (.cells #[.slice aoL 8 cpL] 27)) (by decide))
          have N7 := rws_push (HN.out.keeps b6) (x := .slice aoL 8 cpL) (by rw [hl8e]; exact OLa) (by decide) hgrow hown
          have q2 := F7.t.c2
          have f2 := F7.t.fz 2 (by omega)
          have D1 := hid (F7.set2 (.slice (some ⟨gg, 0, none⟩) (k + 1) cc))
          have D2 := hid (N7.set (show w.heap.size < w.heap.size + 1 by omega) 2 (.slice (some ⟨gg, 0, none⟩) (k + 1) cc))
          have D3 : Hid (∀ i, i < k + 1 → ((fun i => if i = k then Value.slice aoL 8 cpL else V i) i).ownBlock ≠ vO.ownBlock) := hid (fun i hi => by
            by_cases c : i = k
            · simp only [c, if_true]
              rcases HLO.out with h | h
              · obtain ⟨g9, h9, _⟩ := own_at' HLs.out (by omega)
                subst h9
                simp [Value.ownBlock] at h
              · exact h
            · simp only [c, if_false]
              exact HD.out i (by omega))
          have D4 := hid (((HB.out.alloc HB.out.size (.cells #[.slice aoL 8 cpL] 27)).grown hgrow (by simp; omega) (fun q h => by have := (HN.out.out.lt q h).1; omega)).setCell (p := ⟨w.heap.size, 2, none⟩) (Nat.le_refl _) (.slice (some ⟨gg, 0, none⟩) (k + 1) cc))
          clear hown hgrow hat b6 HF HN HB OLa F7 N7 hNT
          go_wp2_with fail
          go_roundw
          case rel => exact ⟨k + 1, us, xs, _, vO, _, rs, _, by go_num, by omega, by omega, hrs, HE, D1, D2, D3, D4, by simp; omega⟩
          case measure => simp [intOf]; omega
    · obtain rfl : k = us.length := by omega
      have FR := hid (show FullR W0 w.heap.size us.length (outU ns liv (begB ns liv) us) (nxR xs) from ⟨HF.out.t.lt, ⟨_, _, t0⟩, ⟨_, HF.out.t.c1, by
        rw [← outL_range]
        refine own_nr (B := w.heap.size + 1) ?_
        have h9 := HF.out.ou
        rw [hrs] at h9
        rw [show (outL ns liv us).length = us.length by simp [outL]]
        exact h9⟩, ⟨_, HF.out.t.c2, rws_nrs HN.out⟩⟩)
      go_wp2_with fail
      go_ret
      exact ⟨us, xs, rfl, HE.out, hxl, FR.out, HB.out⟩

end Go.Proofs.Ytjagijohfkffiaa
