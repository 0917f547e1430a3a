import Derived.Test.YtjagijohfkffiaaWM36
import Derived.Test.YtjagijohfkffiaaWM41
import Derived.Test.YtjagijohfkffiaaWM42

/- The walk of the reference's Watch (laid by gen_rwatch.py). -/
namespace Go.Proofs.Ytjagijohfkffiaa
open Go.RowKit
set_option linter.unusedVariables false

def iList (l : List Nat) : List Int := l.map fun x : Nat => (x : Int)
theorem nInts_ints (l : List Nat) : nInts l = intVs (iList l) := by simp [nInts, intVs, iList]
theorem rws_lists {w : World} {B n : Nat} {v : Value} {V : Nat → Value} {xs : List Nat} (h : Rws w B 27 3 v n V (fun q => nInts (nxR xs q))) : ∃ a c, v = .slice a n c ∧ Lists w a n c ((List.range n).map fun i => iList (nxR xs i)) := by
  have hl : ((List.range n).map fun i => iList (nxR xs i)).length = n := by simp
  rcases h.out.2 with ⟨rfl, rfl⟩ | ⟨g, cap, cur, rfl, hb, hh, hc, hm, _⟩
  · exact ⟨none, 0, rfl, hl, Nat.le_refl _, by omega, fun _ => ⟨rfl, rfl⟩, fun h => by omega⟩
  · refine ⟨_, cap, rfl, hl, hc, by unfold maxLen at hm; omega, fun h => by simp at h, fun _ => ⟨g, 0, rfl, (Array.getElem?_eq_some_iff.1 hh).1, fun i hi => ?_⟩⟩
    have hr := h.row i hi
    rw [nInts_len, nxR_len, nInts_ints] at hr
    obtain ⟨a, c, hv, hi2⟩ := own_row_ints hr
    refine ⟨a, 8, c, ?_, ?_⟩
    · rw [Nat.zero_add, h.out.cellAt i (by omega)]
      simp [List.getElem?_map, List.getElem?_range hi, hv]
    · rw [show ((List.range n).map fun i => iList (nxR xs i)).getD i [] = iList (nxR xs i) by simp [List.getD, List.getElem?_map, List.getElem?_range hi]]
      exact hi2

/-- What the reference's Watch answers. -/
def RWatched (s : ByteArray) (w : World) (e : Ending) (w' : World) : Prop :=
  ∃ v1 v2 er, e = .returned (.tuple #[.agg #[v1, v2], .int .i64 (er : Nat)]) ∧ ((parseOf s).1 ≠ 0 → er = (parseOf s).1 ∧ v1 = .slice none 0 0 ∧ v2 = .slice none 0 0) ∧
    ((parseOf s).1 = 0 → (er = 0 ∧ ∃ n out nx, Mach (parseOf s).2 n out nx ∧ n ≤ 8 ∧ (∃ a c, v1 = .slice a n c ∧ Ints w' a n c (iList ((List.range n).map out))) ∧ ∃ a c, v2 = .slice a n c ∧ Lists w' a n c ((List.range n).map fun i => iList ((List.range 8).map fun l => nx i l))) ∨ (er = 7 ∧ v1 = .slice none 0 0 ∧ v2 = .slice none 0 0 ∧ Big (parseOf s).2)) ∧ Below w.heap.size w w'

/-- The verdicts of those that were met. -/
def OsI (out : Nat → Nat) (ms os : List Nat) (k : Nat) : Prop := os.length = k ∧ ∀ i, i < k → os.getD i 0 = out (atM ms i)
theorem os_more {out : Nat → Nat} {ms os : List Nat} {k n : Nat} (h : OsI out ms os k) (hk : k ≤ ms.length) : OsI out (ms ++ [n]) os k := ⟨h.1, fun i hi => by
  rw [h.2 i hi]
  unfold atM
  rw [getD_snoc_lt (by omega)]⟩
theorem os_push {out : Nat → Nat} {ms os : List Nat} {k m : Nat} (h : OsI out ms os k) (hm : ms[k]? = some m) : OsI out ms (os ++ [out m]) (k + 1) := ⟨by simp [h.1], fun i hi => by
  by_cases c : i = k
  · subst c
    have := h.1
    rw [← this, getD_snoc_eq]
    simp [atM, List.getD, this, hm]
  · rw [getD_snoc_lt (by rw [h.1]; omega)]
    exact h.2 i (by omega)⟩
theorem two_kept {w w' : World} {b : Nat} {x y : Value} {r : Option Nat} (h : Two w b x y) (hg : w.grownBy w' r) (hne : r ≠ some b) : Two w' b x y := by
  have hb := hg.block b h.lt (fun e => hne e.symm)
  exact ⟨(World.cell?_of_block (a := ⟨b, 0, none⟩) hb).trans h.c0, (World.cell?_of_block (a := ⟨b, 1, none⟩) hb).trans h.c1, (World.frozen?_of_block (a := ⟨b, 0, none⟩) hb).trans h.f0, (World.frozen?_of_block (a := ⟨b, 1, none⟩) hb).trans h.f1⟩

section
variable (s : ByteArray) (w : World)

set_option maxHeartbeats 4000000 in
set_option maxRecDepth 100000 in
theorem rwatch_no (hm : s.size ≤ maxLen) (h : (parseOf s).1 ≠ 0) : Calls Try.prog 31 #[.string s] w (RWatched s w) := by
  have C := fun W => formulate_any s W hm
  unfold Formulated at C
  unfold RWatched
  generalize parseOf s = p at *
  have k : ((p.1 : Int) != 0) = true := by rw [bne_iff_ne]; omega
  go_enter Try.func31, Try.ntmps31
  go_wp2_with fail
  refine (C _).mono ?_
  rintro e w1 ⟨hb, ⟨_, rfl⟩ | ⟨h0, _⟩⟩
  · simp only [World.size_alloc] at hb
    have T1 := (two_new w (.slice none 0 0) (.slice none 0 0) 46).below hb (by omega)
    have d0 := T1.c0
    have d1 := T1.c1
    have e0 := T1.f0
    have e1 := T1.f1
    have HB := hid (((Below.refl w.heap.size w).alloc (Nat.le_refl _) (.cells #[.slice none 0 0, .slice none 0 0] 46)).trans (hb.mono (by omega)))
    clear C hb T1
    go_wp2_with fail
    refine ret_cells_tmp (cs := [.slice none 0 0, .slice none 0 0]) (v := .int .i64 (p.1 : Nat)) (b := w.heap.size) Try.results31 ?_ ?_ ?_ ?_ Try.underlying46 rfl Try.machSize ?_
    · rfl
    · rfl
    · rfl
    · exact two_set d0 d1 _ _
    · exact ⟨_, _, p.1, rfl, fun _ => ⟨rfl, rfl, rfl⟩, fun h0 => absurd h0 h, (HB.out.setCell (p := ⟨w.heap.size, 0, none⟩) (Nat.le_refl _) _).setCell (p := ⟨w.heap.size, 1, none⟩) (Nat.le_refl _) _⟩
  · exact absurd h0 h

set_option maxHeartbeats 8000000 in
set_option maxRecDepth 100000 in
theorem rwatch_yes (hm : s.size ≤ maxLen) (h : (parseOf s).1 = 0) : Calls Try.prog 31 #[.string s] w (RWatched s w) := by
  have C := fun W => formulate_any s W hm
  unfold Formulated at C
  have G := hid (parse_good h)
  have SG := hid (parse_seg h)
  unfold RWatched
  generalize parseOf s = p at *
  obtain ⟨p1, ns⟩ := p
  dsimp only at *
  subst h
  obtain ⟨liv, hlv⟩ := liv_ex ns (calmsTo ns ns.length)
  have HLV := hid hlv
  have HFEW := hid (fun us xs (h : Expl ns liv (begB ns liv) us xs) => expl_few G.out SG.out hlv h)
  obtain ⟨i0, hi, hz0, hz1, hz2⟩ := info_parts Try.infoIntE
  obtain ⟨i1, hi1, hz01, hz11, hz21⟩ := info_parts Try.infoIntL
  clear hlv
  go_enter Try.func31, Try.ntmps31
  go_wp2_with fail
  refine (C _).mono ?_
  rintro e w1 ⟨hb, ⟨h0, _⟩ | ⟨_, bs, rfl, hf⟩⟩
  · exact absurd rfl h0
  simp only [World.size_alloc] at hb hf
  have T1 := hid ((two_new w (.slice none 0 0) (.slice none 0 0) 46).below hb (by omega))
  have HB1 := hid (((Below.refl w.heap.size w).alloc (Nat.le_refl _) (.cells #[.slice none 0 0, .slice none 0 0] 46)).trans (hb.mono (by omega)))
  have hs1 : w.heap.size < w1.heap.size := T1.out.lt
  obtain ⟨gp, cap, hfr⟩ := fr_of hf G.out.pos
  have RW := hid (rows_any _ gp cap ns bs w1 hfr G.out)
  clear C hb hf hfr
  go_wp2_with fail
  refine RW.out.mono ?_
  rintro e w3 ⟨R, vs, rfl, hRM, hLS, hM, hb3⟩
  have HRM := hid hRM
  have HLS := hid hLS
  have HB3 := hid (HB1.out.trans (hb3.mono (by omega)))
  have T3 := hid (T1.out.below hb3 (by omega))
  have hs3 := T3.out.lt
  clear hRM hLS hb3 RW HB1 T1
  go_wp2_with fail
  refine (full_any R _ gp cap ns bs vs liv w3 HRM.out G.out hM HLV.out HLS.out HFEW.out).mono ?_
  rintro e w4 ⟨us, ys, rfl, hE, hx, hFR, hb4⟩
  have hK := HFEW.out us ys hE
  have hK0 : 0 < us.length := (List.getElem?_eq_some_iff.1 hE.first).1
  have HCL := hid (expl_lt hE hx)
  have HWM := hid (fun ms xs h he => wex_mach (ms := ms) (xs := xs) G.out HLV.out hE hx h he)
  have HB4 := hid (HB3.out.trans (hb4.mono (by omega)))
  have T4 := hid (T3.out.below hb4 (by omega))
  have hs4 := T4.out.lt
  have HFR := hid hFR
  generalize outU ns liv (begB ns liv) us = out at *
  generalize hKE : us.length = K at *
  clear hE hx hFR hb4 HB3 T3 HRM hKE
  go_wp2_with fail
  refine (apart_any w3.heap.size K out ys w4 HFR.out hK0 hK HCL.out).mono ?_
  rintro e w5 ⟨vt, tb, t, rfl, hTB, hti, hb5⟩
  have HTI := hid hti
  have HFR5 := hid (HFR.out.below hb5)
  have HB5 := hid (HB4.out.trans (hb5.mono (by omega)))
  have T5 := hid (T4.out.below hb5 (by omega))
  have hs5 := T5.out.lt
  obtain ⟨aot, cpt, rfl⟩ := own_slice hTB.out
  have HTB := hid hTB
  clear hTB hti hb5 HFR HB4 T4
  obtain ⟨vO0, f1, aoO, capO, rfl, hocap, horow⟩ := HFR5.out.c1
  obtain ⟨vX, f2, aoX, capX, rfl, hxcap, hxrow⟩ := HFR5.out.c2
  have hP := HFR5.out.lt
  have hol : ((List.range K).map out).length = K := by simp
  rw [hol] at f1 hocap horow
  obtain ⟨gO, rfl, hgO, hoc⟩ := horow hK0
  obtain ⟨gX, rfl, hgX, hxc⟩ := hxrow hK0
  have HOC : Hid (∀ x, x < K → w5.cell? ⟨gO, x, none⟩ = some (.int .i64 (out x : Nat))) := hid (fun x hx => by
    have h9 := hoc x hx
    rw [show atN ((List.range K).map out) x = out x by simp [atN, List.getD, hx]] at h9
    exact h9)
  have HXC : Hid (∀ x, x < K → ∃ gR capR, w5.cell? ⟨gX, x, none⟩ = some (.slice (some ⟨gR, 0, none⟩) 8 capR) ∧ gR < w5.heap.size ∧ ∀ a, a < 8 → w5.cell? ⟨gR, a, none⟩ = some (.int .i64 (nxL ys x a : Nat))) := hid (fun x hx => by
    obtain ⟨r, hr, aoR, capR, rfl, hcR, hrr⟩ := hxc x hx
    rw [nxR_len] at hr hcR hrr
    obtain ⟨gR, rfl, hgR, hv⟩ := hrr (by omega)
    exact ⟨gR, capR, hr, hgR, fun a ha => by have h9 := hv a ha; rw [nxR_at ys ha] at h9; exact h9⟩)
  clear horow hxrow hoc hxc HFR5
  generalize nxL ys = nx at *
  go_wp2_with fail
  have bA := (Below.refl w5.heap.size w5).alloc (Nat.le_refl _) (.cells #[.int .i64 0] 3)
  have bB := hid (bA.alloc (by simp) (.cells #[.slice none 0 0, .slice none 0 0] 46))
  have OM0 := hid ((own_new (w := w5) (cs := #[.int .i64 0]) (t := 3) (n := 1) (size := 1) rfl (by unfold maxLen; omega)).alloc (.cells #[.slice none 0 0, .slice none 0 0] 46))
  have TW0 := two_new (w5.alloc (.cells #[.int .i64 0] 3)) (.slice none 0 0) (.slice none 0 0) 46
  rw [show (w5.alloc (.cells #[.int .i64 0] 3)).heap.size = w5.heap.size + 1 by simp] at TW0
  have TW0 := hid TW0
  clear bA
  go_loopw [8, 10] (fun vM x wq => ∃ (k : Nat) (ms xs os : List Nat) (vO vN : Value) (V : Nat → Value), x = .int .i64 k ∧ k ≤ ms.length ∧ xs.length = 8 * k ∧ Hid (WEx out nx K ms xs) ∧ Hid (OsI out ms os k) ∧ Hid (wq.ownsRow w5.heap.size 3 1 vM ms.length (nInts ms)) ∧ Hid (vM.ownBlock ≠ some (w5.heap.size + 1)) ∧ Hid (Two wq (w5.heap.size + 1) vO vN) ∧ Hid (wq.ownsRow (w5.heap.size + 2) 3 1 vO k (nInts os)) ∧ Hid (vO.ownBlock = none ∨ vO.ownBlock ≠ vM.ownBlock) ∧ Hid (Rws wq (w5.heap.size + 2) 27 3 vN k V (fun q => nInts (nxR xs q))) ∧ Hid (∀ i, i < k → (V i).ownBlock ≠ vM.ownBlock ∧ (V i).ownBlock ≠ vO.ownBlock) ∧ Hid (Below w5.heap.size w5 wq) ∧ w5.heap.size + 2 ≤ wq.heap.size) (fun _ x _ => 796594190 - (intOf x).toNat)
  case atStart => exact ⟨0, [0], [], [], _, _, fun _ => .slice none 0 0, rfl, by simp, rfl, hid (wex_start hK0), hid ⟨rfl, fun i h => by omega⟩, OM0, hid (by simp [Value.ownBlock]), TW0, hid (World.ownsRow_nil _ _ _ _), hid (Or.inl rfl), hid (rws_nil _ _ _ _ _ _), hid (fun i h => by omega), bB, by simp⟩
  case round =>
    obtain ⟨k, ms, xs, os, vO, vN, V, rfl, hk, hxl, HE, HOS, HM, HMT, HT, HO, HOM, HN, HD, HB, hsz⟩ := hrel
    rename World => W0
    clear bB OM0 TW0
    have hmK := wex_len HE.out
    obtain ⟨aoM, cpM, hvM⟩ := own_slice HM.out
    by_cases hlk : k < ms.length
    · obtain ⟨m0, hm0⟩ : ∃ m0, ms[k]? = some m0 := ⟨ms[k], List.getElem?_eq_getElem hlk⟩
      have HM0 := hid hm0
      have hm0K := HE.out.lt m0 (List.mem_of_getElem? hm0)
      obtain ⟨gR, capR, xr, hgR, xv⟩ := HXC.out m0 hm0K
      have HXR := hid xr
      have HXV := hid xv
      have HVB := hid (fun i (hi : i < k) q (h : (V i).ownBlock = some q) => ((HN.out.row i hi).lt q h).2)
      have HOB := hid (fun q (h : vO.ownBlock = some q) => (HO.out.lt q h).2)
      have HNB := hid (fun q (h : vN.ownBlock = some q) => (HN.out.out.lt q h).2)
      clear hm0 xr xv
      subst hvM
      go_wp2_with fail
      go_loopw [8, 11, 12] (fun vM vL x wq => ∃ (l : Nat) (ms xs : List Nat), x = .int .i64 l ∧ l ≤ 8 ∧ xs.length = 8 * k + l ∧ Hid (ms[k]? = some m0) ∧ Hid (WEx out nx K ms xs) ∧ Hid (OsI out ms os k) ∧ Hid (wq.ownsRow w5.heap.size 3 1 vM ms.length (nInts ms)) ∧ Hid (vM.ownBlock ≠ some (w5.heap.size + 1)) ∧ Hid (Two wq (w5.heap.size + 1) vO vN) ∧ Hid (wq.ownsRow (w5.heap.size + 2) 3 1 vO k (nInts os)) ∧ Hid (vO.ownBlock = none ∨ vO.ownBlock ≠ vM.ownBlock) ∧ Hid (Rws wq (w5.heap.size + 2) 27 3 vN k V (fun q => nInts (nxR xs q))) ∧ Hid (∀ i, i < k → (V i).ownBlock ≠ vM.ownBlock ∧ (V i).ownBlock ≠ vO.ownBlock) ∧ Hid (wq.ownsRow W0.heap.size 3 1 vL l (nInts (xs.drop (8 * k)))) ∧ Hid (vL.ownBlock = none ∨ vL.ownBlock ≠ vM.ownBlock) ∧ Hid (Below w5.heap.size w5 wq) ∧ W0.heap.size ≤ wq.heap.size) (fun _ _ x _ => 8 - (intOf x).toNat)
      case atStart => exact ⟨0, ms, xs, rfl, by omega, by omega, HM0, HE, HOS, HM, HMT, HT, HO, HOM, HN, HD, by rw [List.drop_of_length_le (by omega)]; exact hid (World.ownsRow_nil _ _ _ _), hid (Or.inl rfl), HB, Nat.le_refl _⟩
      case round =>
        obtain ⟨l, ms, xs, rfl, hl8, hxl, HM0, HE, HOS, HM, HMT, HT, HO, HOM, HN, HD, HLs, HLM, HB, hsW⟩ := hrel
        rename World => W3
        obtain ⟨aoM2, cpM2, rfl⟩ := own_slice HM.out
        have hku := (List.getElem?_eq_some_iff.1 HM0.out).1
        have hmK2 := wex_len HE.out
        obtain ⟨gM, eM, hgMB, hgMs, hcM⟩ := own_at' HM.out (by omega)
        subst eM
        have c1 : W3.cell? ⟨gM, k, none⟩ = some (.int .i64 (m0 : Nat)) := by
          rw [HM.out.cellAt k (by omega)]
          simp [nInts, List.getElem?_map, HM0.out]
        by_cases hll : l < 8
        · have p2 := (HB.out.cell (p := ⟨w3.heap.size, 2, none⟩) hP).trans f2
          have xr := (HB.out.cell (p := ⟨gX, m0, none⟩) hgX).trans HXR.out
          have xv := (HB.out.cell (p := ⟨gR, l, none⟩) hgR).trans (HXV.out l hll)
          have hnK := HCL.out m0 l hm0K hll
          have hxm : xs.length / 8 = k ∧ xs.length % 8 = l := by omega
          have HWO := hid (fun (j m1 : Nat) (hj : ms[j]? = some m1) hq => wex_old HE.out (m0 := m0) (j := j) (m1 := m1) (by rw [hxm.1]; exact HM0.out) hj (by rw [hxm.2]; exact hq))
          have HWN := hid (fun hall => wex_new HE.out (m0 := m0) (by rw [hxm.1]; exact HM0.out) (by rw [hxm.2]; exact hnK) (by rw [hxm.2]; exact hall))
          rw [hxm.2] at HWN
          generalize nx m0 l = n at *
          have c1' : ∀ m, (W3.drewN m).cell? ⟨gM, k, none⟩ = some (.int .i64 (m0 : Nat)) := fun m => c1
          go_wp2_with fail
          go_quiet (fail)
          have bq := below_drewN (Below.refl W3.heap.size W3) nq
          have HM4 := hid (own_keeps HM.out bq)
          have HT4 := hid (HT.out.below bq HT.out.lt)
          have HO4 := hid (own_keeps HO.out bq)
          have HN4 := hid (HN.out.keeps bq)
          have HL4 := hid (own_keeps HLs.out bq)
          have HB4' := hid (below_drewN HB.out nq)
          have hsW4 : W0.heap.size ≤ (W3.drewN nq).heap.size := hsW
          clear bq c1 c1' p2 xr xv HM HT HO HN HLs HB hgMs
          generalize W3.drewN nq = W4 at *
          go_wp2_with fail
          refine (like_any _ K n _ _ tb t ms W4 (HTB.out.keeps HB4'.out) hnK hK (own_nr HM4.out) (by omega) HE.out.lt).mono ?_
          rintro e w6 ⟨hcase, mm, rfl⟩
          have bq := below_drewN (Below.refl W4.heap.size W4) mm
          have HMx := hid (own_keeps HM4.out bq)
          have HTx := hid (HT4.out.below bq HT4.out.lt)
          have HOx := hid (own_keeps HO4.out bq)
          have HNx := hid (HN4.out.keeps bq)
          have HLx := hid (own_keeps HL4.out bq)
          have HBx := hid (below_drewN HB4'.out mm)
          have hsWx : W0.heap.size ≤ (W4.drewN mm).heap.size := hsW4
          clear bq HM4 HT4 HO4 HN4 HL4 HB4'
          generalize W4.drewN mm = W5 at *
          have HMTx := HMT
          have HOMx := HOM
          have HDx := HD
          have HLMx := HLM
          have HTN := hid (fun m (hm : m < K) => HTI.out n m hnK hm)
          rcases hcase with ⟨j, m1, rfl, hj, htf⟩ | ⟨rfl, hall⟩
          · have hm1K := HE.out.lt m1 (List.mem_of_getElem? hj)
            have hjl := (List.getElem?_eq_some_iff.1 hj).1
            have HEx := hid (HWO.out j m1 hj (Classical.byContradiction fun hne => by
              rw [(HTN.out m1 hm1K).2 hne] at htf
              cases htf))
            have HM0x := HM0
            have HOSx := HOS
            have jn : ¬ ((j : Int) < 0) := by omega
            clear hj htf HWO HWN
            obtain ⟨aoL, cpL, rfl⟩ := own_slice HLx.out
            have HLB := hid (fun q h => (HLx.out.lt q h).1)
            go_wp2_with (at_builtin; go_must (refine wpList_append_lies _ rfl (.tmp 65) (.tmp 67) 27 rfl W0.heap.size 3 i0 (.int .i64 0) 1 8 Try.underlying27 hi hz0 hz1 hz2 rfl (by decide) _ l (nInts (xs.drop (8 * k))) rfl (HLx.out.alloc _) ⟨W5.heap.size, 0, none⟩ 1 1 [.int .i64 (j : Nat)] rfl rfl (cells_put W5 [.int .i64 (j : Nat)] _) (by intro y hy; simp at hy; rcases hy with rfl; rfl) (by decide) (by unfold maxLen; omega) (by omega) (by simp; omega) (W5.heap.size + 1) (by simp) ?_))
            intro gg cc w7 hown hgrow hat hlt7
            have b6 := (Below.refl W5.heap.size W5).alloc (Nat.le_refl _) (.cells #[.int .i64 (j : Nat)] 3)
            have hs7 : W5.heap.size ≤ w7.heap.size := by
              have := hgrow.size
              simp at this
              omega
            have hLT : (Value.slice aoL l cpL).ownBlock ≠ some (w5.heap.size + 1) := fun e => by have := HLB.out _ e; omega
            have T7 := hid (two_kept (HTx.out.below b6 HTx.out.lt) hgrow hLT)
            have hML : (Value.slice (some ⟨gM, 0, none⟩) ms.length cpM2).ownBlock = none ∨ (Value.slice (some ⟨gM, 0, none⟩) ms.length cpM2).ownBlock ≠ (Value.slice aoL l cpL).ownBlock := by
              rcases HLMx.out with h | h
              · rw [h]
                cases (Value.slice (some ⟨gM, 0, none⟩) ms.length cpM2).ownBlock <;> simp
              · exact Or.inr fun e => h e.symm
            have M7 := hid ((own_keeps HMx.out b6).kept hgrow hML)
            have far : ∀ q, q < W0.heap.size → some q ≠ (Value.slice aoL l cpL).ownBlock := fun q hq e => by have := HLB.out q e.symm; omega
            have O7 := hid ((own_keeps HOx.out b6).kept hgrow (by
              cases hv : vO.ownBlock with
              | none => exact Or.inl rfl
              | some q => exact Or.inr (far q (HOB.out q hv))))
            have N7 := (HNx.out.keeps b6).keptI hgrow (own_ne' (HNx.out.keeps b6).out (HLx.out.alloc (.cells #[.int .i64 (j : Nat)] 3)) (by decide)) (fun q hq => by
              cases hv : (V q).ownBlock with
              | none => exact Or.inl rfl
              | some z => exact Or.inr (far z (HVB.out q hq z hv)))
            have N7 : Hid (Rws w7 (w5.heap.size + 2) 27 3 vN k V (fun q => nInts (nxR (xs ++ [j]) q))) := hid ⟨N7.out, fun q hq => by
              rw [nxR_more (by omega)]
              exact N7.row q hq⟩
            have L7 : Hid (w7.ownsRow W0.heap.size 3 1 (.slice (some ⟨gg, 0, none⟩) (l + 1) cc) (l + 1) (nInts ((xs ++ [j]).drop (8 * k)))) := hid (by
              rw [List.drop_append_of_le_length (by omega), show nInts (xs.drop (8 * k) ++ [j]) = nInts (xs.drop (8 * k)) ++ [.int .i64 (j : Nat)] by simp [nInts]]
              exact hown)
            have LM7 : Hid ((Value.slice (some ⟨gg, 0, none⟩) (l + 1) cc).ownBlock = none ∨ (Value.slice (some ⟨gg, 0, none⟩) (l + 1) cc).ownBlock ≠ (Value.slice (some ⟨gM, 0, none⟩) ms.length cpM2).ownBlock) := hid (Or.inr fun e => by
              have e2 : (Value.slice (some ⟨gM, 0, none⟩) ms.length cpM2).ownBlock = some gg := e.symm
              rcases hat with h | h
              · rcases HLMx.out with h2 | h2
                · rw [h] at h2; cases h2
                · exact h2 (by rw [h, e2])
              · have := (HMx.out.lt gg e2).2
                omega)
            have HB7 := hid ((HBx.out.alloc HBx.out.size (.cells #[.int .i64 (j : Nat)] 3)).grown hgrow (by have := HBx.out.size; simp; omega) (fun q h => by have := HLB.out q h; omega))
            clear hown hgrow hat b6 HMx HTx HOx HNx HLx HLMx HBx hML far
            go_wp2_with fail
            go_roundw
            case rel => exact ⟨l + 1, ms, xs ++ [j], by go_num, by omega, by rw [List.length_append, List.length_singleton]; omega, HM0x, HEx, HOSx, M7, HMTx, T7, O7, HOMx, N7, HDx, L7, LM7, HB7, by omega⟩
            case measure => simp [intOf]; omega
          · have HEn := hid (HWN.out (fun m hm hlk => (HTN.out m (HE.out.lt m hm)).1 (hall m hm) hlk))
            have hmK3 := wex_len HEn.out
            rw [List.length_append, List.length_singleton] at hmK3
            clear hall HWO HWN
            have HMB := hid (fun q h => (HMx.out.lt q h).1)
            have HMs := hid (fun q (h : (Value.slice (some ⟨gM, 0, none⟩) ms.length cpM2).ownBlock = some q) => (HMx.out.lt q h).2)
            go_wp2_with (at_builtin; go_must (refine wpList_append_lies _ rfl (.tmp 61) (.tmp 63) 27 rfl w5.heap.size 3 i0 (.int .i64 0) 1 8 Try.underlying27 hi hz0 hz1 hz2 rfl (by decide) _ ms.length (nInts ms) rfl (HMx.out.alloc _) ⟨W5.heap.size, 0, none⟩ 1 1 [.int .i64 (n : Nat)] rfl rfl (cells_put W5 [.int .i64 (n : Nat)] _) (by intro y hy; simp at hy; rcases hy with rfl; rfl) (by decide) (by unfold maxLen; omega) (by omega) (by have := HBx.out.size; simp; omega) (W5.heap.size + 1) (by simp) ?_))
            intro g9 c9 w9 hown hgrow hat hlt9
            have b6 := (Below.refl W5.heap.size W5).alloc (Nat.le_refl _) (.cells #[.int .i64 (n : Nat)] 3)
            have hs9 : W5.heap.size ≤ w9.heap.size := by
              have := hgrow.size
              simp at this
              omega
            have OLt := hid (fun q (h : vO.ownBlock = some q) => (HOx.out.lt q h).2)
            have VLt := hid (fun i (hi : i < k) q (h : (V i).ownBlock = some q) => ((HNx.out.row i hi).lt q h).2)
            have LLt := hid (fun q (h : u11.ownBlock = some q) => (HLx.out.lt q h).2)
            have hTlt := HTx.out.lt
            have T9 := hid (two_kept (HTx.out.below b6 hTlt) hgrow HMTx.out)
            have O9 := hid ((own_keeps HOx.out b6).kept hgrow HOMx.out)
            have N9 := hid ((HNx.out.keeps b6).keptI hgrow (own_ne' (HNx.out.keeps b6).out (HMx.out.alloc (.cells #[.int .i64 (n : Nat)] 3)) (by decide)) (fun q hq => Or.inr (HDx.out q hq).1))
            have L9 := hid ((own_keeps HLx.out b6).kept hgrow HLMx.out)
            have M9 : Hid (w9.ownsRow w5.heap.size 3 1 (.slice (some ⟨g9, 0, none⟩) (ms.length + 1) c9) (ms ++ [n]).length (nInts (ms ++ [n]))) := hid (by
              rw [List.length_append, show nInts (ms ++ [n]) = nInts ms ++ [.int .i64 (n : Nat)] by simp [nInts]]
              exact hown)
            have fresh : ∀ q, q < W5.heap.size → q ≠ gM → q ≠ g9 := fun q hq hne e => by
              rcases hat with h | h
              · exact hne (e.trans (Option.some.inj h).symm)
              · omega
            have MT9 : Hid ((Value.slice (some ⟨g9, 0, none⟩) (ms.length + 1) c9).ownBlock ≠ some (w5.heap.size + 1)) := hid (fun e => fresh _ hTlt (fun e2 => HMTx.out (by rw [e2]; rfl)) (Option.some.inj e).symm)
            have OM9 : Hid (vO.ownBlock = none ∨ vO.ownBlock ≠ (Value.slice (some ⟨g9, 0, none⟩) (ms.length + 1) c9).ownBlock) := hid (by
              rcases HOMx.out with h | h
              · exact Or.inl h
              · cases hv : vO.ownBlock with
                | none => exact Or.inl rfl
                | some q => exact Or.inr fun e => fresh q (OLt.out q hv) (fun e2 => h (by rw [hv, e2]; rfl)) (Option.some.inj e))
            have D9 : Hid (∀ i, i < k → (V i).ownBlock ≠ (Value.slice (some ⟨g9, 0, none⟩) (ms.length + 1) c9).ownBlock ∧ (V i).ownBlock ≠ vO.ownBlock) := hid (fun i hi => ⟨fun e => by
              have e2 : (V i).ownBlock = some g9 := e
              exact fresh g9 (VLt.out i hi g9 e2) (fun e3 => (HDx.out i hi).1 (by rw [e2, e3]; rfl)) rfl, (HDx.out i hi).2⟩)
            have LM9 : Hid (u11.ownBlock = none ∨ u11.ownBlock ≠ (Value.slice (some ⟨g9, 0, none⟩) (ms.length + 1) c9).ownBlock) := hid (by
              rcases HLMx.out with h | h
              · exact Or.inl h
              · cases hv : u11.ownBlock with
                | none => exact Or.inl rfl
                | some q => exact Or.inr fun e => fresh q (LLt.out q hv) (fun e2 => h (by rw [hv, e2]; rfl)) (Option.some.inj e))
            have B9 := hid ((HBx.out.alloc HBx.out.size (.cells #[.int .i64 (n : Nat)] 3)).grown hgrow (by have := HBx.out.size; simp; omega) (fun q h => HMB.out q h))
            have HM0x : Hid ((ms ++ [n])[k]? = some m0) := hid (by rw [List.getElem?_append_left hku]; exact HM0.out)
            have HOSx : Hid (OsI out (ms ++ [n]) os k) := hid (os_more HOS.out (by omega))
            have HEx := HEn
            have HMx := M9
            have HTx := T9
            have HOx := O9
            have HNx := N9
            have HLx := L9
            have HBx := B9
            have HMTx := MT9
            have HOMx := OM9
            have HDx := D9
            have HLMx := LM9
            have hsWx : W0.heap.size ≤ w9.heap.size := by omega
            clear hown hgrow hat b6 fresh M9 T9 O9 N9 L9 B9 MT9 OM9 D9 LM9 OLt VLt LLt
            obtain ⟨aoL, cpL, rfl⟩ := own_slice HLx.out
            have HLB := hid (fun q h => (HLx.out.lt q h).1)
            go_wp2_with (at_builtin; go_must (refine wpList_append_lies _ rfl (.tmp 65) (.tmp 67) 27 rfl W0.heap.size 3 i0 (.int .i64 0) 1 8 Try.underlying27 hi hz0 hz1 hz2 rfl (by decide) _ l (nInts (xs.drop (8 * k))) rfl (HLx.out.alloc _) ⟨w9.heap.size, 0, none⟩ 1 1 [.int .i64 (ms.length : Nat)] rfl rfl (cells_put w9 [.int .i64 (ms.length : Nat)] _) (by intro y hy; simp at hy; rcases hy with rfl; rfl) (by decide) (by unfold maxLen; omega) (by omega) (by simp; omega) (w9.heap.size + 1) (by simp) ?_))
            intro gg cc w7 hown hgrow hat hlt7
            have b6 := (Below.refl w9.heap.size w9).alloc (Nat.le_refl _) (.cells #[.int .i64 (ms.length : Nat)] 3)
            have hs7 : w9.heap.size ≤ w7.heap.size := by
              have := hgrow.size
              simp at this
              omega
            have hLT : (Value.slice aoL l cpL).ownBlock ≠ some (w5.heap.size + 1) := fun e => by have := HLB.out _ e; omega
            have T7 := hid (two_kept (HTx.out.below b6 HTx.out.lt) hgrow hLT)
            have hML : (Value.slice (some ⟨g9, 0, none⟩) (ms.length + 1) c9).ownBlock = none ∨ (Value.slice (some ⟨g9, 0, none⟩) (ms.length + 1) c9).ownBlock ≠ (Value.slice aoL l cpL).ownBlock := by
              rcases HLMx.out with h | h
              · rw [h]
                cases (Value.slice (some ⟨g9, 0, none⟩) (ms.length + 1) c9).ownBlock <;> simp
              · exact Or.inr fun e => h e.symm
            have M7 := hid ((own_keeps HMx.out b6).kept hgrow hML)
            have far : ∀ q, q < W0.heap.size → some q ≠ (Value.slice aoL l cpL).ownBlock := fun q hq e => by have := HLB.out q e.symm; omega
            have O7 := hid ((own_keeps HOx.out b6).kept hgrow (by
              cases hv : vO.ownBlock with
              | none => exact Or.inl rfl
              | some q => exact Or.inr (far q (HOB.out q hv))))
            have N7 := (HNx.out.keeps b6).keptI hgrow (own_ne' (HNx.out.keeps b6).out (HLx.out.alloc (.cells #[.int .i64 (ms.length : Nat)] 3)) (by decide)) (fun q hq => by
              cases hv : (V q).ownBlock with
              | none => exact Or.inl rfl
              | some z => exact Or.inr (far z (HVB.out q hq z hv)))
            have N7 : Hid (Rws w7 (w5.heap.size + 2) 27 3 vN k V (fun q => nInts (nxR (xs ++ [ms.length]) q))) := hid ⟨N7.out, fun q hq => by
              rw [nxR_more (by omega)]
              exact N7.row q hq⟩
            have L7 : Hid (w7.ownsRow W0.heap.size 3 1 (.slice (some ⟨gg, 0, none⟩) (l + 1) cc) (l + 1) (nInts ((xs ++ [ms.length]).drop (8 * k)))) := hid (by
              rw [List.drop_append_of_le_length (by omega), show nInts (xs.drop (8 * k) ++ [ms.length]) = nInts (xs.drop (8 * k)) ++ [.int .i64 (ms.length : Nat)] by simp [nInts]]
              exact hown)
            have LM7 : Hid ((Value.slice (some ⟨gg, 0, none⟩) (l + 1) cc).ownBlock = none ∨ (Value.slice (some ⟨gg, 0, none⟩) (l + 1) cc).ownBlock ≠ (Value.slice (some ⟨g9, 0, none⟩) (ms.length + 1) c9).ownBlock) := hid (Or.inr fun e => by
              have e2 : (Value.slice (some ⟨g9, 0, none⟩) (ms.length + 1) c9).ownBlock = some gg := e.symm
              rcases hat with h | h
              · rcases HLMx.out with h2 | h2
                · rw [h] at h2; cases h2
                · exact h2 (by rw [h, e2])
              · have := (HMx.out.lt gg e2).2
                omega)
            have HB7 := hid ((HBx.out.alloc HBx.out.size (.cells #[.int .i64 (ms.length : Nat)] 3)).grown hgrow (by have := HBx.out.size; simp; omega) (fun q h => by have := HLB.out q h; omega))
            clear hown hgrow hat b6 HMx HTx HOx HNx HLx HLMx HBx hML far
            go_wp2_with fail
            go_roundw
            case rel => exact ⟨l + 1, ms ++ [n], xs ++ [ms.length], by go_num, by omega, by rw [List.length_append, List.length_singleton]; omega, HM0x, HEx, HOSx, M7, HMTx, T7, O7, HOMx, N7, HDx, L7, LM7, HB7, by omega⟩
            case measure => simp [intOf]; omega
        · obtain rfl : l = 8 := by omega
          have t0 := HT.out.c0
          have hT9 := HT.out.lt
          have p1 := (HB.out.cell (p := ⟨w3.heap.size, 1, none⟩) hP).trans f1
          have om := (HB.out.cell (p := ⟨gO, m0, none⟩) hgO).trans (HOC.out m0 hm0K)
          have hoK := HOS.out.1
          obtain ⟨aoV, cpV, rfl⟩ := own_slice HO.out
          have HOB2 := hid (fun q (h : (Value.slice aoV k cpV).ownBlock = some q) => (HO.out.lt q h))
          have HVB2 := hid (fun i (hi : i < k) q (h : (V i).ownBlock = some q) => ((HN.out.row i hi).lt q h).2)
          have hMO : (Value.slice aoV k cpV).ownBlock ≠ some gM := fun e => by
            rcases HOM.out with h | h
            · rw [e] at h; cases h
            · exact h (by rw [e]; rfl)
          have HZ : Hid (W3.cell? ⟨w3.heap.size, 1, none⟩ = some (.slice (some ⟨gO, 0, none⟩) K capO) ∧ W3.cell? ⟨gM, k, none⟩ = some (.int .i64 (m0 : Nat)) ∧ W3.cell? ⟨gO, m0, none⟩ = some (.int .i64 (out m0 : Nat))) := hid ⟨p1, c1, om⟩
          have hgMW : gM < W3.heap.size := hgMs
          have hPW : w3.heap.size < W3.heap.size := by have := HB.out.size; omega
          have hOW : gO < W3.heap.size := by have := HB.out.size; omega
          have z1 : (k : Int) < (ms.length : Int) := by omega
          have z2 : (m0 : Int) < (K : Int) := by omega
          go_wp2_with fail
          refine wp_region_held_drew (S := fun W => W.cell? ⟨w3.heap.size, 1, none⟩ = some (.slice (some ⟨gO, 0, none⟩) K capO) ∧ W.cell? ⟨gM, k, none⟩ = some (.int .i64 (m0 : Nat)) ∧ W.cell? ⟨gO, m0, none⟩ = some (.int .i64 (out m0 : Nat))) (by kernel_rfl) HZ.out (fun hHeld => ?_)
          refine wpAnyH_take (i := 0) (oi := { dst := some 69, op := Op.fieldAddr _ (.tmp 9) 0, type := _, pos := _, after := _, guard := none }) (v := (Value.pointer (some ⟨w5.heap.size + 1, 0, none⟩))) rfl (by kernel_rfl) (by kernel_rfl) (by kernel_rfl) (fun _ _ _ h => h) (Or.inl ⟨by rfl, by intro w' hSw; (try dsimp only at hSw); go_simp⟩) (by assumption) ?_
          simp only [Act.put, List.setIfInBounds_toArray, List.set_cons_zero, List.set_cons_succ]
          refine wpAnyH_take (i := 2) (oi := { dst := some 71, op := Op.move (.tmp 6), type := _, pos := _, after := _, guard := none }) (v := (Value.pointer (some ⟨w3.heap.size, 0, none⟩))) rfl (by kernel_rfl) (by kernel_rfl) (by kernel_rfl) (fun _ _ _ h => h) (Or.inl ⟨by rfl, by intro w' hSw; (try dsimp only at hSw); go_simp⟩) (by assumption) ?_
          simp only [Act.put, List.setIfInBounds_toArray, List.set_cons_zero, List.set_cons_succ]
          refine wpAnyH_take (i := 3) (oi := { dst := some 72, op := Op.nilCheck (.tmp 71), type := _, pos := _, after := _, guard := none }) (v := (Value.pointer (some ⟨w3.heap.size, 0, none⟩))) rfl (by kernel_rfl) (by kernel_rfl) (by kernel_rfl) (fun _ _ _ h => h) (Or.inl ⟨by rfl, by intro w' hSw; (try dsimp only at hSw); go_simp⟩) (by assumption) ?_
          simp only [Act.put, List.setIfInBounds_toArray, List.set_cons_zero, List.set_cons_succ]
          refine wpAnyH_take (i := 4) (oi := { dst := some 73, op := Op.fieldAddr _ (.tmp 72) 1, type := _, pos := _, after := _, guard := none }) (v := (Value.pointer (some ⟨w3.heap.size, 1, none⟩))) rfl (by kernel_rfl) (by kernel_rfl) (by kernel_rfl) (fun _ _ _ h => h) (Or.inl ⟨by rfl, by intro w' hSw; (try dsimp only at hSw); go_simp⟩) (by assumption) ?_
          simp only [Act.put, List.setIfInBounds_toArray, List.set_cons_zero, List.set_cons_succ]
          refine wpAnyH_take (i := 5) (oi := { dst := some 74, op := Op.load _ (.tmp 73), type := _, pos := _, after := _, guard := none }) (v := (Value.slice (some ⟨gO, 0, none⟩) K capO)) rfl (by kernel_rfl) (by kernel_rfl) (by kernel_rfl) (fun _ _ _ h => h) (Or.inl ⟨by rfl, by intro w' hSw; obtain ⟨s0, s1, s2⟩ := hSw; go_simp⟩) (by assumption) ?_
          simp only [Act.put, List.setIfInBounds_toArray, List.set_cons_zero, List.set_cons_succ]
          refine wpAnyH_take (i := 6) (oi := { dst := some 75, op := Op.move (.tmp 8), type := _, pos := _, after := _, guard := none }) (v := (Value.slice (some ⟨gM, 0, none⟩) ms.length cpM2)) rfl (by kernel_rfl) (by kernel_rfl) (by kernel_rfl) (fun _ _ _ h => h) (Or.inl ⟨by rfl, by intro w' hSw; (try dsimp only at hSw); go_simp⟩) (by assumption) ?_
          simp only [Act.put, List.setIfInBounds_toArray, List.set_cons_zero, List.set_cons_succ]
          refine wpAnyH_take (i := 7) (oi := { dst := some 76, op := Op.move (.tmp 10), type := _, pos := _, after := _, guard := none }) (v := (Value.int .i64 (k : Nat))) rfl (by kernel_rfl) (by kernel_rfl) (by kernel_rfl) (fun _ _ _ h => h) (Or.inl ⟨by rfl, by intro w' hSw; (try dsimp only at hSw); go_simp⟩) (by assumption) ?_
          simp only [Act.put, List.setIfInBounds_toArray, List.set_cons_zero, List.set_cons_succ]
          refine wpAnyH_take (i := 8) (oi := { dst := some 77, op := Op.indexAddr _ (.tmp 75) (.tmp 76), type := _, pos := _, after := _, guard := none }) (v := (Value.pointer (some ⟨gM, k, none⟩))) rfl (by kernel_rfl) (by kernel_rfl) (by kernel_rfl) (fun _ _ _ h => h) (Or.inl ⟨by rfl, by intro w' hSw; (try dsimp only at hSw); go_simp⟩) (by assumption) ?_
          simp only [Act.put, List.setIfInBounds_toArray, List.set_cons_zero, List.set_cons_succ]
          refine wpAnyH_take (i := 9) (oi := { dst := some 78, op := Op.load _ (.tmp 77), type := _, pos := _, after := _, guard := none }) (v := (Value.int .i64 (m0 : Nat))) rfl (by kernel_rfl) (by kernel_rfl) (by kernel_rfl) (fun _ _ _ h => h) (Or.inl ⟨by rfl, by intro w' hSw; obtain ⟨s0, s1, s2⟩ := hSw; go_simp⟩) (by assumption) ?_
          simp only [Act.put, List.setIfInBounds_toArray, List.set_cons_zero, List.set_cons_succ]
          refine wpAnyH_take (i := 10) (oi := { dst := some 79, op := Op.indexAddr _ (.tmp 74) (.tmp 78), type := _, pos := _, after := _, guard := none }) (v := (Value.pointer (some ⟨gO, m0, none⟩))) rfl (by kernel_rfl) (by kernel_rfl) (by kernel_rfl) (fun _ _ _ h => h) (Or.inl ⟨by rfl, by intro w' hSw; (try dsimp only at hSw); go_simp⟩) (by assumption) ?_
          simp only [Act.put, List.setIfInBounds_toArray, List.set_cons_zero, List.set_cons_succ]
          refine wpAnyH_take (i := 11) (oi := { dst := some 80, op := Op.load _ (.tmp 79), type := _, pos := _, after := _, guard := none }) (v := (Value.int .i64 (out m0 : Nat))) rfl (by kernel_rfl) (by kernel_rfl) (by kernel_rfl) (fun _ _ _ h => h) (Or.inl ⟨by rfl, by intro w' hSw; obtain ⟨s0, s1, s2⟩ := hSw; go_simp⟩) (by assumption) ?_
          simp only [Act.put, List.setIfInBounds_toArray, List.set_cons_zero, List.set_cons_succ]
          refine wpAnyH_ready (rs := [1, 12]) (by kernel_rfl) (by simp) ?_
          refine AllReadyH.cons rfl (fun K9 hK9 => ?_) (AllReadyH.cons rfl (fun K9 hK9 => ?_) AllReadyH.nil)
          · go_simp
            refine hK9.out _ _ (by assumption) (fun hHeld => ?_)
            clear hK9 K9
            refine wpAnyH_ready (rs := [12]) (by kernel_rfl) (by simp) ?_
            refine AllReadyH.cons rfl (fun K9 hK9 => ?_) AllReadyH.nil
            go_simp
            refine hK9.out _ _ ⟨by show (W3.alloc _).cell? _ = _; rw [World.cell?_alloc_lt _ _ _ hPW]; exact HZ.out.1, by show (W3.alloc _).cell? _ = _; rw [World.cell?_alloc_lt _ _ _ hgMW]; exact HZ.out.2.1, by show (W3.alloc _).cell? _ = _; rw [World.cell?_alloc_lt _ _ _ hOW]; exact HZ.out.2.2⟩ (fun hHeld => ?_)
            clear hK9 K9
            refine wpAnyH_ready (rs := [13]) (by kernel_rfl) (by simp) ?_
            refine AllReadyH.cons rfl (fun K9 hK9 => ?_) AllReadyH.nil
            refine step_append_lies _ (by rfl) (.tmp 70) (.tmp 81) 27 (by rfl) (w5.heap.size + 2) 3 i0 (.int .i64 0) 1 8 Try.underlying27 hi hz0 hz1 hz2 rfl (by decide) _ k (nInts os) (by rfl) ((HO.out.alloc _).drew) ⟨W3.heap.size, 0, none⟩ 1 1 [.int .i64 (out m0 : Nat)] (by rfl) (by rfl) (cells_put W3 [.int .i64 (out m0 : Nat)] _) (by intro y hy; simp at hy; rcases hy with rfl; rfl) (by decide) (by unfold maxLen; omega) (by omega) (by simp; omega) (W3.heap.size + 1) (by simp) ?_
            intro gg cc w2 hown hgrow hat hlt2
            have hszN : W3.heap.size + 1 ≤ w2.heap.size := by
              have h4 : (W3.drew.alloc (.cells #[.int .i64 (out m0 : Nat)] 3)).heap.size ≤ w2.heap.size := hgrow.size
              rw [World.size_alloc] at h4
              exact h4
            have KB2 : KB W3 w2 (W3.heap.size + w2.heap.size + 1) (Value.slice aoV k cpV).ownBlock none := ⟨hgrow.os, hgrow.tape, hgrow.output, by omega, fun q hq h1 h2 _ => by
              rw [hgrow.block q (by show q < (W3.alloc (.cells #[.int .i64 (out m0 : Nat)] 3)).heap.size; rw [World.size_alloc]; omega) h2]
              show (W3.alloc (.cells #[.int .i64 (out m0 : Nat)] 3)).heap[q]? = _
              rw [Below.heap_alloc _ _ _ (by omega)]⟩
            have hfar : ∀ q, q < w5.heap.size + 2 → some q ≠ (Value.slice aoV k cpV).ownBlock := fun q hq e => by have := (HOB2.out q e.symm).1; omega
            have keep : ∀ q, q < W3.heap.size → some q ≠ (Value.slice aoV k cpV).ownBlock → w2.heap[q]? = W3.heap[q]? := fun q hq h => KB2.block q hq (by omega) h (by simp)
            have nT : ∀ (v : Value) B e s n ys, W3.ownsRow B e s v n ys → v.ownBlock ≠ some (W3.heap.size + w2.heap.size + 1) := fun v B e s n ys h e9 => by have := (h.lt _ e9).2; omega
            have T2 : Two w2 (w5.heap.size + 1) (.slice aoV k cpV) vN := ⟨(World.cell?_of_block (a := ⟨w5.heap.size + 1, 0, none⟩) (keep _ hT9 (hfar (w5.heap.size + 1) (by omega)))).trans HT.out.c0, (World.cell?_of_block (a := ⟨w5.heap.size + 1, 1, none⟩) (keep _ hT9 (hfar (w5.heap.size + 1) (by omega)))).trans HT.out.c1, (World.frozen?_of_block (a := ⟨w5.heap.size + 1, 0, none⟩) (keep _ hT9 (hfar (w5.heap.size + 1) (by omega)))).trans HT.out.f0, (World.frozen?_of_block (a := ⟨w5.heap.size + 1, 1, none⟩) (keep _ hT9 (hfar (w5.heap.size + 1) (by omega)))).trans HT.out.f1⟩
            have g2 : w2.cell? ⟨w3.heap.size, 1, none⟩ = some (.slice (some ⟨gO, 0, none⟩) K capO) ∧ w2.cell? ⟨gM, k, none⟩ = some (.int .i64 (m0 : Nat)) ∧ w2.cell? ⟨gO, m0, none⟩ = some (.int .i64 (out m0 : Nat)) := ⟨(World.cell?_of_block (a := ⟨w3.heap.size, 1, none⟩) (keep _ hPW (hfar w3.heap.size (by omega)))).trans HZ.out.1, (World.cell?_of_block (a := ⟨gM, k, none⟩) (keep _ hgMW (fun e => hMO e.symm))).trans HZ.out.2.1, (World.cell?_of_block (a := ⟨gO, m0, none⟩) (keep _ hOW (hfar gO (by omega)))).trans HZ.out.2.2⟩
            have D1 := hid (T2.set0 (.slice (some ⟨gg, 0, none⟩) (k + 1) cc))
            have D2 : Hid ((w2.setCell ⟨w5.heap.size + 1, 0, none⟩ (.slice (some ⟨gg, 0, none⟩) (k + 1) cc)).ownsRow (w5.heap.size + 2) 3 1 (.slice (some ⟨gg, 0, none⟩) (k + 1) cc) (k + 1) (nInts (os ++ [out m0]))) := hid (own_set_other (by
              rw [show nInts (os ++ [out m0]) = nInts os ++ [.int .i64 (out m0 : Nat)] by simp [nInts]]
              exact hown) (by omega) _ _)
            have D3 := hid (own_setx' (own_kb HM.out KB2 (nT _ _ _ _ _ _ HM.out) (Or.inr fun e => hMO e.symm) (by simp [Value.ownBlock])) ⟨w5.heap.size + 1, 0, none⟩ (.slice (some ⟨gg, 0, none⟩) (k + 1) cc) HMT.out)
            have D4 := hid (own_set_other (own_kb HLs.out KB2 (nT _ _ _ _ _ _ HLs.out) (by
              cases hv : u11.ownBlock with
              | none => exact Or.inl rfl
              | some q =>
                refine Or.inr fun e => ?_
                have h1 := (HLs.out.lt q hv).1
                have h2 := HOB.out q e.symm
                omega) (by cases u11.ownBlock <;> simp)) (show w5.heap.size + 1 < W0.heap.size by omega) 0 (.slice (some ⟨gg, 0, none⟩) (k + 1) cc))
            have N2 : Rws w2 (w5.heap.size + 2) 27 3 vN k V (fun q => nInts (nxR xs q)) := ⟨own_kb HN.out.out KB2 (nT _ _ _ _ _ _ HN.out.out) (own_ne' HN.out.out HO.out (by decide)) (by cases vN.ownBlock <;> simp), fun i hi => own_kb (HN.out.row i hi) KB2 (nT _ _ _ _ _ _ (HN.out.row i hi)) (Or.inr (HD.out i hi).2) (by cases (V i).ownBlock <;> simp)⟩
            have D5 := hid (N2.set (show w5.heap.size + 1 < w5.heap.size + 2 by omega) 0 (.slice (some ⟨gg, 0, none⟩) (k + 1) cc))
            have fresh : ∀ q, q < W3.heap.size → some q ≠ (Value.slice aoV k cpV).ownBlock → q ≠ gg := fun q hq hne e => by
              rcases hat with h | h
              · exact hne (by rw [h, e])
              · omega
            have D6 : Hid (((.slice (some ⟨gg, 0, none⟩) (k + 1) cc) : Value).ownBlock = none ∨ ((.slice (some ⟨gg, 0, none⟩) (k + 1) cc) : Value).ownBlock ≠ (Value.slice (some ⟨gM, 0, none⟩) ms.length cpM2).ownBlock) := hid (Or.inr fun e => fresh gM hgMW (fun e2 => hMO e2.symm) (Option.some.inj e).symm)
            have D7 : Hid (∀ i, i < k → (V i).ownBlock ≠ (Value.slice (some ⟨gM, 0, none⟩) ms.length cpM2).ownBlock ∧ (V i).ownBlock ≠ ((.slice (some ⟨gg, 0, none⟩) (k + 1) cc) : Value).ownBlock) := hid (fun i hi => ⟨(HD.out i hi).1, fun e => by
              have e2 : (V i).ownBlock = some gg := e
              exact fresh gg (HVB2.out i hi gg e2) (fun e3 => (HD.out i hi).2 (by rw [e2, e3])) rfl⟩)
            have D8 : Hid (u11.ownBlock ≠ ((.slice (some ⟨gg, 0, none⟩) (k + 1) cc) : Value).ownBlock) := hid (fun e => by
              have e2 : u11.ownBlock = some gg := e
              have h1 := HLs.out.lt gg e2
              rcases hat with h | h
              · have := HOB.out gg h
                omega
              · omega)
            have D9 := hid (((below_drewN (HB.out.alloc HB.out.size (.cells #[.int .i64 (out m0 : Nat)] 3)) 1).grown hgrow (by have h9 := HB.out.size; show w5.heap.size ≤ (W3.alloc _).heap.size; simp; omega) (fun q h => by have := (HOB2.out q h).1; omega)).setCell (p := ⟨w5.heap.size + 1, 0, none⟩) (by show w5.heap.size ≤ w5.heap.size + 1; omega) (.slice (some ⟨gg, 0, none⟩) (k + 1) cc))
            refine hK9.out _ _ g2 (fun hHeld => ?_)
            have HS5 : Hid ((w2.setCell ⟨w5.heap.size + 1, 0, none⟩ (.slice (some ⟨gg, 0, none⟩) (k + 1) cc)).cell? ⟨w3.heap.size, 1, none⟩ = some (.slice (some ⟨gO, 0, none⟩) K capO) ∧ (w2.setCell ⟨w5.heap.size + 1, 0, none⟩ (.slice (some ⟨gg, 0, none⟩) (k + 1) cc)).cell? ⟨gM, k, none⟩ = some (.int .i64 (m0 : Nat)) ∧ (w2.setCell ⟨w5.heap.size + 1, 0, none⟩ (.slice (some ⟨gg, 0, none⟩) (k + 1) cc)).cell? ⟨gO, m0, none⟩ = some (.int .i64 (out m0 : Nat))) := hid ⟨by rw [World.cell?_setCell_other _ _ _ _ (fun e => by have := congrArg Addr.block e; simp at this; omega)]; exact g2.1, by rw [World.cell?_setCell_other _ _ _ _ (fun e => HMT.out (by have := congrArg Addr.block e; simp at this; rw [this]; rfl))]; exact g2.2.1, by rw [World.cell?_setCell_other _ _ _ _ (fun e => by have := congrArg Addr.block e; simp at this; omega)]; exact g2.2.2⟩
            have c2 := T2.c0
            have f9 := T2.f0
            clear hK9 K9 hown hgrow hat g2 T2 KB2 keep nT N2 fresh hfar
            simp only [Act.put, List.setIfInBounds_toArray]
            refine wpAnyH_take (i := 14) (oi := { dst := some 83, op := Op.fieldAddr _ (.tmp 9) 0, type := _, pos := _, after := _, guard := none }) (v := (Value.pointer (some ⟨w5.heap.size + 1, 0, none⟩))) rfl (by kernel_rfl) (by kernel_rfl) (by kernel_rfl) (fun _ _ _ h => h) (Or.inl ⟨by rfl, by intro w' hSw; (try dsimp only at hSw); go_simp⟩) (by assumption) ?_
            simp only [Act.put]
            refine wpAnyH_ready (rs := [15]) (by kernel_rfl) (by simp) ?_
            refine AllReadyH.cons rfl (fun K9 hK9 => ?_) AllReadyH.nil
            go_simp
            refine hK9.out _ _ HS5.out (fun hHeld => ?_)
            clear hK9 K9
            refine wpAnyH_done (by kernel_rfl) ?_ _
            clear hHeld c2 f9 HS5
            have hszF : W3.heap.size < (w2.setCell ⟨w5.heap.size + 1, 0, none⟩ (.slice (some ⟨gg, 0, none⟩) (k + 1) cc)).heap.size := by rw [World.size_setCell]; omega
            generalize w2.setCell ⟨w5.heap.size + 1, 0, none⟩ (.slice (some ⟨gg, 0, none⟩) (k + 1) cc) = W6 at *
            clear HT HO HM HN HLs HB HD t0 p1 om c1 HZ
            have OS2 := hid (os_push HOS.out HM0.out)
            have q0 := D1.out.c1
            have q1 := D1.out.f1
            obtain ⟨aoN, cpN, rfl⟩ := own_slice D5.out.out
            obtain ⟨aoL, cpL, rfl⟩ := own_slice D4.out
            have b6 := (Below.refl W6.heap.size W6).alloc (Nat.le_refl _) (.cells #[.slice aoL 8 cpL] 27)
            go_wp2_with (at_builtin; go_must (refine wpList_append_lies _ rfl (.tmp 85) (.tmp 87) 44 rfl (w5.heap.size + 2) 27 i1 (.slice none 0 0) 1 24 Try.underlying44 hi1 hz01 hz11 hz21 rfl (by decide) _ k ((List.range k).map V) rfl (D5.out.out.alloc _) ⟨W6.heap.size, 0, none⟩ 1 1 [.slice aoL 8 cpL] rfl rfl (cells_put W6 [.slice aoL 8 cpL] _) (by intro y hy; simp at hy; rcases hy with rfl; rfl) (by decide) (by unfold maxLen; omega) (by omega) (by simp; omega) (W6.heap.size + 1) (by simp) ?_))
            intro g8 c8 w8 hown hgrow hat hlt8
            have hs8 : W6.heap.size ≤ w8.heap.size := by
              have := hgrow.size
              simp at this
              omega
            have hNT : (Value.slice aoN k cpN).ownBlock ≠ some (w5.heap.size + 1) := fun e => by have := (D5.out.out.lt _ e).1; omega
            have T8 := two_kept (D1.out.below b6 D1.out.lt) hgrow hNT
            have hl8e : (nInts (nxR xs k)).length = 8 := by rw [nInts_len, nxR_len]
            have OLa := (own_mono D4.out (show w5.heap.size + 2 ≤ W0.heap.size by omega)).alloc (.cells #[.slice aoL 8 cpL] 27)
            rw [nxR_drop (by omega)] at OLa
            have N8 := rws_push (D5.out.keeps b6) (x := .slice aoL 8 cpL) (by rw [hl8e]; exact OLa) (by decide) hgrow hown
            have ow : W6.alloc (.cells #[.slice aoL 8 cpL] 27) = W6.alloc (.cells #[.slice aoL 8 cpL] 27) := rfl
            have OWN := D5.out.out.alloc (.cells #[.slice aoL 8 cpL] 27)
            have O8 := (own_keeps D2.out b6).kept hgrow (own_ne' (own_keeps D2.out b6) OWN (by decide))
            have M8 := (own_keeps D3.out b6).kept hgrow (own_ne' (own_keeps D3.out b6) OWN (by decide))
            have r0 := T8.c1
            have r1 := T8.f1
            have E1 := hid (T8.set1 (.slice (some ⟨g8, 0, none⟩) (k + 1) c8))
            have E2 := hid (N8.set (show w5.heap.size + 1 < w5.heap.size + 2 by omega) 1 (.slice (some ⟨g8, 0, none⟩) (k + 1) c8))
            have E3 := hid (own_set_other O8 (show w5.heap.size + 1 < w5.heap.size + 2 by omega) 1 (.slice (some ⟨g8, 0, none⟩) (k + 1) c8))
            have E4 := hid (own_setx' M8 ⟨w5.heap.size + 1, 1, none⟩ (.slice (some ⟨g8, 0, none⟩) (k + 1) c8) HMT.out)
            have E5 : Hid (∀ i, i < k + 1 → ((fun i => if i = k then Value.slice aoL 8 cpL else V i) i).ownBlock ≠ (Value.slice (some ⟨gM, 0, none⟩) ms.length cpM2).ownBlock ∧ ((fun i => if i = k then Value.slice aoL 8 cpL else V i) i).ownBlock ≠ ((.slice (some ⟨gg, 0, none⟩) (k + 1) cc) : Value).ownBlock) := hid (fun i hi => by
              by_cases c : i = k
              · simp only [c, if_true]
                refine ⟨?_, D8.out⟩
                rcases HLM.out with h | h
                · obtain ⟨g9, h9, _⟩ := own_at' D4.out (by omega)
                  subst h9
                  simp [Value.ownBlock] at h
                · exact h
              · simp only [c, if_false]
                exact D7.out i (by omega))
            have E6 := hid (((D9.out.alloc D9.out.size (.cells #[.slice aoL 8 cpL] 27)).grown hgrow (by have := D9.out.size; simp; omega) (fun q h => by have := (D5.out.out.lt q h).1; omega)).setCell (p := ⟨w5.heap.size + 1, 1, none⟩) (by show w5.heap.size ≤ w5.heap.size + 1; omega) (.slice (some ⟨g8, 0, none⟩) (k + 1) c8))
            clear hown hgrow hat b6 ow OWN O8 M8 N8 T8 OLa D1 D2 D3 D4 D5 D9 hNT
            go_wp2_with fail
            go_roundw
            case rel => exact ⟨k + 1, ms, xs, os ++ [out m0], _, _, _, by go_num, by omega, by omega, HE, OS2, E4, HMT, E1, E3, D6, E2, E5, E6, by simp; omega⟩
            case measure => simp [intOf]; omega
          · go_simp
            refine hK9.out _ _ ⟨by show (W3.alloc _).cell? _ = _; rw [World.cell?_alloc_lt _ _ _ hPW]; exact HZ.out.1, by show (W3.alloc _).cell? _ = _; rw [World.cell?_alloc_lt _ _ _ hgMW]; exact HZ.out.2.1, by show (W3.alloc _).cell? _ = _; rw [World.cell?_alloc_lt _ _ _ hOW]; exact HZ.out.2.2⟩ (fun hHeld => ?_)
            clear hK9 K9
            refine wpAnyH_ready (rs := [1]) (by kernel_rfl) (by simp) ?_
            refine AllReadyH.cons rfl (fun K9 hK9 => ?_) AllReadyH.nil
            go_simp
            refine hK9.out _ _ (by assumption) (fun hHeld => ?_)
            clear hK9 K9
            refine wpAnyH_ready (rs := [13]) (by kernel_rfl) (by simp) ?_
            refine AllReadyH.cons rfl (fun K9 hK9 => ?_) AllReadyH.nil
            refine step_append_lies _ (by rfl) (.tmp 70) (.tmp 81) 27 (by rfl) (w5.heap.size + 2) 3 i0 (.int .i64 0) 1 8 Try.underlying27 hi hz0 hz1 hz2 rfl (by decide) _ k (nInts os) (by rfl) ((HO.out.alloc _).drew) ⟨W3.heap.size, 0, none⟩ 1 1 [.int .i64 (out m0 : Nat)] (by rfl) (by rfl) (cells_put W3 [.int .i64 (out m0 : Nat)] _) (by intro y hy; simp at hy; rcases hy with rfl; rfl) (by decide) (by unfold maxLen; omega) (by omega) (by simp; omega) (W3.heap.size + 1) (by simp) ?_
            intro gg cc w2 hown hgrow hat hlt2
            have hszN : W3.heap.size + 1 ≤ w2.heap.size := by
              have h4 : (W3.drew.alloc (.cells #[.int .i64 (out m0 : Nat)] 3)).heap.size ≤ w2.heap.size := hgrow.size
              rw [World.size_alloc] at h4
              exact h4
            have KB2 : KB W3 w2 (W3.heap.size + w2.heap.size + 1) (Value.slice aoV k cpV).ownBlock none := ⟨hgrow.os, hgrow.tape, hgrow.output, by omega, fun q hq h1 h2 _ => by
              rw [hgrow.block q (by show q < (W3.alloc (.cells #[.int .i64 (out m0 : Nat)] 3)).heap.size; rw [World.size_alloc]; omega) h2]
              show (W3.alloc (.cells #[.int .i64 (out m0 : Nat)] 3)).heap[q]? = _
              rw [Below.heap_alloc _ _ _ (by omega)]⟩
            have hfar : ∀ q, q < w5.heap.size + 2 → some q ≠ (Value.slice aoV k cpV).ownBlock := fun q hq e => by have := (HOB2.out q e.symm).1; omega
            have keep : ∀ q, q < W3.heap.size → some q ≠ (Value.slice aoV k cpV).ownBlock → w2.heap[q]? = W3.heap[q]? := fun q hq h => KB2.block q hq (by omega) h (by simp)
            have nT : ∀ (v : Value) B e s n ys, W3.ownsRow B e s v n ys → v.ownBlock ≠ some (W3.heap.size + w2.heap.size + 1) := fun v B e s n ys h e9 => by have := (h.lt _ e9).2; omega
            have T2 : Two w2 (w5.heap.size + 1) (.slice aoV k cpV) vN := ⟨(World.cell?_of_block (a := ⟨w5.heap.size + 1, 0, none⟩) (keep _ hT9 (hfar (w5.heap.size + 1) (by omega)))).trans HT.out.c0, (World.cell?_of_block (a := ⟨w5.heap.size + 1, 1, none⟩) (keep _ hT9 (hfar (w5.heap.size + 1) (by omega)))).trans HT.out.c1, (World.frozen?_of_block (a := ⟨w5.heap.size + 1, 0, none⟩) (keep _ hT9 (hfar (w5.heap.size + 1) (by omega)))).trans HT.out.f0, (World.frozen?_of_block (a := ⟨w5.heap.size + 1, 1, none⟩) (keep _ hT9 (hfar (w5.heap.size + 1) (by omega)))).trans HT.out.f1⟩
            have g2 : w2.cell? ⟨w3.heap.size, 1, none⟩ = some (.slice (some ⟨gO, 0, none⟩) K capO) ∧ w2.cell? ⟨gM, k, none⟩ = some (.int .i64 (m0 : Nat)) ∧ w2.cell? ⟨gO, m0, none⟩ = some (.int .i64 (out m0 : Nat)) := ⟨(World.cell?_of_block (a := ⟨w3.heap.size, 1, none⟩) (keep _ hPW (hfar w3.heap.size (by omega)))).trans HZ.out.1, (World.cell?_of_block (a := ⟨gM, k, none⟩) (keep _ hgMW (fun e => hMO e.symm))).trans HZ.out.2.1, (World.cell?_of_block (a := ⟨gO, m0, none⟩) (keep _ hOW (hfar gO (by omega)))).trans HZ.out.2.2⟩
            have D1 := hid (T2.set0 (.slice (some ⟨gg, 0, none⟩) (k + 1) cc))
            have D2 : Hid ((w2.setCell ⟨w5.heap.size + 1, 0, none⟩ (.slice (some ⟨gg, 0, none⟩) (k + 1) cc)).ownsRow (w5.heap.size + 2) 3 1 (.slice (some ⟨gg, 0, none⟩) (k + 1) cc) (k + 1) (nInts (os ++ [out m0]))) := hid (own_set_other (by
              rw [show nInts (os ++ [out m0]) = nInts os ++ [.int .i64 (out m0 : Nat)] by simp [nInts]]
              exact hown) (by omega) _ _)
            have D3 := hid (own_setx' (own_kb HM.out KB2 (nT _ _ _ _ _ _ HM.out) (Or.inr fun e => hMO e.symm) (by simp [Value.ownBlock])) ⟨w5.heap.size + 1, 0, none⟩ (.slice (some ⟨gg, 0, none⟩) (k + 1) cc) HMT.out)
            have D4 := hid (own_set_other (own_kb HLs.out KB2 (nT _ _ _ _ _ _ HLs.out) (by
              cases hv : u11.ownBlock with
              | none => exact Or.inl rfl
              | some q =>
                refine Or.inr fun e => ?_
                have h1 := (HLs.out.lt q hv).1
                have h2 := HOB.out q e.symm
                omega) (by cases u11.ownBlock <;> simp)) (show w5.heap.size + 1 < W0.heap.size by omega) 0 (.slice (some ⟨gg, 0, none⟩) (k + 1) cc))
            have N2 : Rws w2 (w5.heap.size + 2) 27 3 vN k V (fun q => nInts (nxR xs q)) := ⟨own_kb HN.out.out KB2 (nT _ _ _ _ _ _ HN.out.out) (own_ne' HN.out.out HO.out (by decide)) (by cases vN.ownBlock <;> simp), fun i hi => own_kb (HN.out.row i hi) KB2 (nT _ _ _ _ _ _ (HN.out.row i hi)) (Or.inr (HD.out i hi).2) (by cases (V i).ownBlock <;> simp)⟩
            have D5 := hid (N2.set (show w5.heap.size + 1 < w5.heap.size + 2 by omega) 0 (.slice (some ⟨gg, 0, none⟩) (k + 1) cc))
            have fresh : ∀ q, q < W3.heap.size → some q ≠ (Value.slice aoV k cpV).ownBlock → q ≠ gg := fun q hq hne e => by
              rcases hat with h | h
              · exact hne (by rw [h, e])
              · omega
            have D6 : Hid (((.slice (some ⟨gg, 0, none⟩) (k + 1) cc) : Value).ownBlock = none ∨ ((.slice (some ⟨gg, 0, none⟩) (k + 1) cc) : Value).ownBlock ≠ (Value.slice (some ⟨gM, 0, none⟩) ms.length cpM2).ownBlock) := hid (Or.inr fun e => fresh gM hgMW (fun e2 => hMO e2.symm) (Option.some.inj e).symm)
            have D7 : Hid (∀ i, i < k → (V i).ownBlock ≠ (Value.slice (some ⟨gM, 0, none⟩) ms.length cpM2).ownBlock ∧ (V i).ownBlock ≠ ((.slice (some ⟨gg, 0, none⟩) (k + 1) cc) : Value).ownBlock) := hid (fun i hi => ⟨(HD.out i hi).1, fun e => by
              have e2 : (V i).ownBlock = some gg := e
              exact fresh gg (HVB2.out i hi gg e2) (fun e3 => (HD.out i hi).2 (by rw [e2, e3])) rfl⟩)
            have D8 : Hid (u11.ownBlock ≠ ((.slice (some ⟨gg, 0, none⟩) (k + 1) cc) : Value).ownBlock) := hid (fun e => by
              have e2 : u11.ownBlock = some gg := e
              have h1 := HLs.out.lt gg e2
              rcases hat with h | h
              · have := HOB.out gg h
                omega
              · omega)
            have D9 := hid (((below_drewN (HB.out.alloc HB.out.size (.cells #[.int .i64 (out m0 : Nat)] 3)) 1).grown hgrow (by have h9 := HB.out.size; show w5.heap.size ≤ (W3.alloc _).heap.size; simp; omega) (fun q h => by have := (HOB2.out q h).1; omega)).setCell (p := ⟨w5.heap.size + 1, 0, none⟩) (by show w5.heap.size ≤ w5.heap.size + 1; omega) (.slice (some ⟨gg, 0, none⟩) (k + 1) cc))
            refine hK9.out _ _ g2 (fun hHeld => ?_)
            have HS5 : Hid ((w2.setCell ⟨w5.heap.size + 1, 0, none⟩ (.slice (some ⟨gg, 0, none⟩) (k + 1) cc)).cell? ⟨w3.heap.size, 1, none⟩ = some (.slice (some ⟨gO, 0, none⟩) K capO) ∧ (w2.setCell ⟨w5.heap.size + 1, 0, none⟩ (.slice (some ⟨gg, 0, none⟩) (k + 1) cc)).cell? ⟨gM, k, none⟩ = some (.int .i64 (m0 : Nat)) ∧ (w2.setCell ⟨w5.heap.size + 1, 0, none⟩ (.slice (some ⟨gg, 0, none⟩) (k + 1) cc)).cell? ⟨gO, m0, none⟩ = some (.int .i64 (out m0 : Nat))) := hid ⟨by rw [World.cell?_setCell_other _ _ _ _ (fun e => by have := congrArg Addr.block e; simp at this; omega)]; exact g2.1, by rw [World.cell?_setCell_other _ _ _ _ (fun e => HMT.out (by have := congrArg Addr.block e; simp at this; rw [this]; rfl))]; exact g2.2.1, by rw [World.cell?_setCell_other _ _ _ _ (fun e => by have := congrArg Addr.block e; simp at this; omega)]; exact g2.2.2⟩
            have c2 := T2.c0
            have f9 := T2.f0
            clear hK9 K9 hown hgrow hat g2 T2 KB2 keep nT N2 fresh hfar
            simp only [Act.put, List.setIfInBounds_toArray]
            refine wpAnyH_take (i := 14) (oi := { dst := some 83, op := Op.fieldAddr _ (.tmp 9) 0, type := _, pos := _, after := _, guard := none }) (v := (Value.pointer (some ⟨w5.heap.size + 1, 0, none⟩))) rfl (by kernel_rfl) (by kernel_rfl) (by kernel_rfl) (fun _ _ _ h => h) (Or.inl ⟨by rfl, by intro w' hSw; (try dsimp only at hSw); go_simp⟩) (by assumption) ?_
            simp only [Act.put]
            refine wpAnyH_ready (rs := [15]) (by kernel_rfl) (by simp) ?_
            refine AllReadyH.cons rfl (fun K9 hK9 => ?_) AllReadyH.nil
            go_simp
            refine hK9.out _ _ HS5.out (fun hHeld => ?_)
            clear hK9 K9
            refine wpAnyH_done (by kernel_rfl) ?_ _
            clear hHeld c2 f9 HS5
            have hszF : W3.heap.size < (w2.setCell ⟨w5.heap.size + 1, 0, none⟩ (.slice (some ⟨gg, 0, none⟩) (k + 1) cc)).heap.size := by rw [World.size_setCell]; omega
            generalize w2.setCell ⟨w5.heap.size + 1, 0, none⟩ (.slice (some ⟨gg, 0, none⟩) (k + 1) cc) = W6 at *
            clear HT HO HM HN HLs HB HD t0 p1 om c1 HZ
            have OS2 := hid (os_push HOS.out HM0.out)
            have q0 := D1.out.c1
            have q1 := D1.out.f1
            obtain ⟨aoN, cpN, rfl⟩ := own_slice D5.out.out
            obtain ⟨aoL, cpL, rfl⟩ := own_slice D4.out
            have b6 := (Below.refl W6.heap.size W6).alloc (Nat.le_refl _) (.cells #[.slice aoL 8 cpL] 27)
            go_wp2_with (at_builtin; go_must (refine wpList_append_lies _ rfl (.tmp 85) (.tmp 87) 44 rfl (w5.heap.size + 2) 27 i1 (.slice none 0 0) 1 24 Try.underlying44 hi1 hz01 hz11 hz21 rfl (by decide) _ k ((List.range k).map V) rfl (D5.out.out.alloc _) ⟨W6.heap.size, 0, none⟩ 1 1 [.slice aoL 8 cpL] rfl rfl (cells_put W6 [.slice aoL 8 cpL] _) (by intro y hy; simp at hy; rcases hy with rfl; rfl) (by decide) (by unfold maxLen; omega) (by omega) (by simp; omega) (W6.heap.size + 1) (by simp) ?_))
            intro g8 c8 w8 hown hgrow hat hlt8
            have hs8 : W6.heap.size ≤ w8.heap.size := by
              have := hgrow.size
              simp at this
              omega
            have hNT : (Value.slice aoN k cpN).ownBlock ≠ some (w5.heap.size + 1) := fun e => by have := (D5.out.out.lt _ e).1; omega
            have T8 := two_kept (D1.out.below b6 D1.out.lt) hgrow hNT
            have hl8e : (nInts (nxR xs k)).length = 8 := by rw [nInts_len, nxR_len]
            have OLa := (own_mono D4.out (show w5.heap.size + 2 ≤ W0.heap.size by omega)).alloc (.cells #[.slice aoL 8 cpL] 27)
            rw [nxR_drop (by omega)] at OLa
            have N8 := rws_push (D5.out.keeps b6) (x := .slice aoL 8 cpL) (by rw [hl8e]; exact OLa) (by decide) hgrow hown
            have ow : W6.alloc (.cells #[.slice aoL 8 cpL] 27) = W6.alloc (.cells #[.slice aoL 8 cpL] 27) := rfl
            have OWN := D5.out.out.alloc (.cells #[.slice aoL 8 cpL] 27)
            have O8 := (own_keeps D2.out b6).kept hgrow (own_ne' (own_keeps D2.out b6) OWN (by decide))
            have M8 := (own_keeps D3.out b6).kept hgrow (own_ne' (own_keeps D3.out b6) OWN (by decide))
            have r0 := T8.c1
            have r1 := T8.f1
            have E1 := hid (T8.set1 (.slice (some ⟨g8, 0, none⟩) (k + 1) c8))
            have E2 := hid (N8.set (show w5.heap.size + 1 < w5.heap.size + 2 by omega) 1 (.slice (some ⟨g8, 0, none⟩) (k + 1) c8))
            have E3 := hid (own_set_other O8 (show w5.heap.size + 1 < w5.heap.size + 2 by omega) 1 (.slice (some ⟨g8, 0, none⟩) (k + 1) c8))
            have E4 := hid (own_setx' M8 ⟨w5.heap.size + 1, 1, none⟩ (.slice (some ⟨g8, 0, none⟩) (k + 1) c8) HMT.out)
            have E5 : Hid (∀ i, i < k + 1 → ((fun i => if i = k then Value.slice aoL 8 cpL else V i) i).ownBlock ≠ (Value.slice (some ⟨gM, 0, none⟩) ms.length cpM2).ownBlock ∧ ((fun i => if i = k then Value.slice aoL 8 cpL else V i) i).ownBlock ≠ ((.slice (some ⟨gg, 0, none⟩) (k + 1) cc) : Value).ownBlock) := hid (fun i hi => by
              by_cases c : i = k
              · simp only [c, if_true]
                refine ⟨?_, D8.out⟩
                rcases HLM.out with h | h
                · obtain ⟨g9, h9, _⟩ := own_at' D4.out (by omega)
                  subst h9
                  simp [Value.ownBlock] at h
                · exact h
              · simp only [c, if_false]
                exact D7.out i (by omega))
            have E6 := hid (((D9.out.alloc D9.out.size (.cells #[.slice aoL 8 cpL] 27)).grown hgrow (by have := D9.out.size; simp; omega) (fun q h => by have := (D5.out.out.lt q h).1; omega)).setCell (p := ⟨w5.heap.size + 1, 1, none⟩) (by show w5.heap.size ≤ w5.heap.size + 1; omega) (.slice (some ⟨g8, 0, none⟩) (k + 1) c8))
            clear hown hgrow hat b6 ow OWN O8 M8 N8 T8 OLa D1 D2 D3 D4 D5 D9 hNT
            go_wp2_with fail
            go_roundw
            case rel => exact ⟨k + 1, ms, xs, os ++ [out m0], _, _, _, by go_num, by omega, by omega, HE, OS2, E4, HMT, E1, E3, D6, E2, E5, E6, by simp; omega⟩
            case measure => simp [intOf]; omega
    · obtain rfl : k = ms.length := by omega
      have HMA := hid (HWM.out ms xs HE.out hxl)
      have TF := hid (T5.out.below HB.out (by omega))
      have HBF := hid (HB5.out.trans (HB.out.mono (by omega)))
      have d0 := TF.out.c0
      have d1 := TF.out.c1
      have e0 := TF.out.f0
      have e1 := TF.out.f1
      subst hvM
      by_cases h8 : ms.length ≤ 8
      · have k8 : ¬ ((8 : Int) < (ms.length : Int)) := by omega
        obtain ⟨a1, c1, rfl⟩ := own_slice HO.out
        obtain ⟨a2, c2, rfl⟩ := own_slice HN.out.out
        have hw5 : w.heap.size < w5.heap.size + 2 := by omega
        have O1 := own_set_other (own_set_other HO.out hw5 0 (.slice a1 ms.length c1)) hw5 1 (.slice a2 ms.length c2)
        rw [nInts_ints] at O1
        have N1 := (HN.out.set hw5 0 (.slice a1 ms.length c1)).set hw5 1 (.slice a2 ms.length c2)
        obtain ⟨a1', c1', e1', I1⟩ := own_row_ints O1
        obtain ⟨a2', c2', e2', L2⟩ := rws_lists N1
        cases e1'
        cases e2'
        have g0 := HT.out.c0
        have g1 := HT.out.c1
        have hos : os = (List.range ms.length).map fun i => out (atM ms i) := by
          apply List.ext_getElem
          · simp [HOS.out.1]
          · intro i h1 h2
            have h3 := HOS.out.2 i (by rw [← HOS.out.1]; exact h1)
            simp [List.getD, List.getElem?_eq_getElem h1] at h3
            simp [h3]
        have I1 := hid I1
        have L2 := hid L2
        have HOE := hid hos
        clear hos O1 N1
        go_wp2_with fail
        refine ret_cells_tmp (cs := [.slice a1 ms.length c1, .slice a2 ms.length c2]) (v := .int .i64 (0 : Nat)) (b := w.heap.size) Try.results31 ?_ ?_ ?_ ?_ Try.underlying46 rfl Try.machSize ?_
        · rfl
        · rfl
        · rfl
        · exact two_set d0 d1 _ _
        · refine ⟨_, _, 0, rfl, Or.inl ⟨rfl, ms.length, _, _, HMA.out, h8, ⟨a1, c1, rfl, ?_⟩, ⟨a2, c2, rfl, ?_⟩⟩, (HBF.out.setCell (p := ⟨w.heap.size, 0, none⟩) (Nat.le_refl _) _).setCell (p := ⟨w.heap.size, 1, none⟩) (Nat.le_refl _) _⟩
          · rw [← HOE.out]
            exact I1.out
          · exact L2.out
      · have k8 : (8 : Int) < (ms.length : Int) := by omega
        have HBG := hid (big_mach HMA.out (by omega))
        go_wp2_with fail
        refine ret_cells_tmp (cs := [.slice none 0 0, .slice none 0 0]) (v := .int .i64 (7 : Nat)) (b := w.heap.size) Try.results31 ?_ ?_ ?_ ?_ Try.underlying46 rfl Try.machSize ?_
        · rfl
        · rfl
        · rfl
        · exact two_set d0 d1 _ _
        · exact ⟨_, _, 7, rfl, fun h0 => absurd rfl h0, fun _ => Or.inr ⟨rfl, rfl, rfl, HBG.out⟩, (HBF.out.setCell (p := ⟨w.heap.size, 0, none⟩) (Nat.le_refl _) _).setCell (p := ⟨w.heap.size, 1, none⟩) (Nat.le_refl _) _⟩
end

end Go.Proofs.Ytjagijohfkffiaa
