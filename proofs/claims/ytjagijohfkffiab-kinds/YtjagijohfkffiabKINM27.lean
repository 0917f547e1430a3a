import Derived.Test.YtjagijohfkffiabKINM22
import Derived.Test.YtjagijohfkffiabKINM26

/- The walk of the sorting's refine. -/
namespace Go.Proofs.Ytjagijohfkffiab
open Go.RowKit
set_option linter.unusedVariables false

theorem cntK_congr {f g : Nat → Nat} : ∀ m, (∀ i, i < m → f i = g i) → cntK f m = cntK g m
  | 0, _ => rfl
  | m + 1, h => by rw [cntK, cntK, cntK_congr m (fun i hi => h i (by omega)), h m (by omega)]

def kdL (kds : List Nat) : Nat → Nat := fun i => kds.getD i 0
/-- The first k states are sorted. -/
structure RfI (sh : Nat → St) (k : Nat) (kds : List Nat) (ss : List St) : Prop where
  len : kds.length = k
  at_ : ∀ i, i < k → ss[kdL kds i]? = some (sh i)
  nd : ss.Pairwise (fun a b => a ≠ b)
  fo : Fo (kdL kds) k
  cnt : ss.length = cntK (kdL kds) k
theorem rf_start (sh : Nat → St) : RfI sh 0 [] [] := ⟨rfl, fun i h => by omega, by simp, fun i h => by omega, rfl⟩
theorem kdL_old {kds : List Nat} {j i : Nat} (h : i < kds.length) : kdL (kds ++ [j]) i = kdL kds i := getD_snoc_lt h
theorem kdL_new (kds : List Nat) (j : Nat) : kdL (kds ++ [j]) kds.length = j := getD_snoc_eq kds j
theorem rf_old {sh : Nat → St} {k j : Nat} {kds : List Nat} {ss : List St} (h : RfI sh k kds ss) (hj : ss[j]? = some (sh k)) : RfI sh (k + 1) (kds ++ [j]) ss := by
  have hl := h.len
  have hjl := (List.getElem?_eq_some_iff.1 hj).1
  have e : ∀ i, i < k → kdL (kds ++ [j]) i = kdL kds i := fun i hi => kdL_old (by omega)
  have e2 : kdL (kds ++ [j]) k = j := by rw [← hl]; exact kdL_new kds j
  refine ⟨by simp [hl], fun i hi => ?_, h.nd, fun i hi => ?_, ?_⟩
  · by_cases c : i = k
    · subst c; rw [e2]; exact hj
    · rw [e i (by omega)]; exact h.at_ i (by omega)
  · rw [cntK_congr i (fun q hq => e q (by omega))]
    by_cases c : i = k
    · subst c; rw [e2, ← h.cnt]; omega
    · rw [e i (by omega)]; exact h.fo i (by omega)
  · rw [cntK, cntK_congr k e, e2, ← h.cnt]; omega
theorem rf_new {sh : Nat → St} {k : Nat} {kds : List Nat} {ss : List St} (h : RfI sh k kds ss) (hn : ∀ s ∈ ss, s ≠ sh k) : RfI sh (k + 1) (kds ++ [ss.length]) (ss ++ [sh k]) := by
  have hl := h.len
  have e : ∀ i, i < k → kdL (kds ++ [ss.length]) i = kdL kds i := fun i hi => kdL_old (by omega)
  have e2 : kdL (kds ++ [ss.length]) k = ss.length := by rw [← hl]; exact kdL_new kds _
  refine ⟨by simp [hl], fun i hi => ?_, ?_, fun i hi => ?_, ?_⟩
  · by_cases c : i = k
    · subst c; rw [e2]; simp
    · rw [e i (by omega)]
      have h1 := h.at_ i (by omega)
      rw [List.getElem?_append_left (List.getElem?_eq_some_iff.1 h1).1]
      exact h1
  · rw [List.pairwise_append]
    refine ⟨h.nd, by simp, fun a ha b hb => ?_⟩
    simp at hb
    subst hb
    exact hn a ha
  · rw [cntK_congr i (fun q hq => e q (by omega))]
    by_cases c : i = k
    · subst c; rw [e2, ← h.cnt]; exact Nat.le_refl _
    · rw [e i (by omega)]; exact h.fo i (by omega)
  · rw [cntK, cntK_congr k e, e2, ← h.cnt]; simp
theorem rf_inj {sh : Nat → St} {k : Nat} {kds : List Nat} {ss : List St} (h : RfI sh k kds ss) {i j : Nat} (hi : i < k) (hj : j < k) : kdL kds i = kdL kds j ↔ sh i = sh j := by
  have h1 := h.at_ i hi
  have h2 := h.at_ j hj
  constructor
  · intro e
    rw [e, h2] at h1
    exact (Option.some.inj h1).symm
  · intro e
    rw [e] at h1
    obtain ⟨l1, e1⟩ := List.getElem?_eq_some_iff.1 h1
    obtain ⟨l2, e2⟩ := List.getElem?_eq_some_iff.1 h2
    have hd := List.pairwise_iff_getElem.1 h.nd
    rcases Nat.lt_trichotomy (kdL kds i) (kdL kds j) with c | c | c
    · exact absurd (e1.trans e2.symm) (hd _ _ l1 l2 c)
    · exact c
    · exact absurd (e2.trans e1.symm) (hd _ _ l2 l1 c)

def stK (o : Nat) (f : Nat → Nat) : St := ⟨(o : Int), [(f 0 : Int), f 1, f 2, f 3, f 4, f 5, f 6, f 7]⟩
theorem stK_inj {o o' : Nat} {f f' : Nat → Nat} : stK o f = stK o' f' ↔ o = o' ∧ ∀ a, a < 8 → f a = f' a := by
  constructor
  · intro h
    simp only [stK, St.mk.injEq, List.cons.injEq, and_true, Int.ofNat_inj] at h
    obtain ⟨h0, h1, h2, h3, h4, h5, h6, h7, h8⟩ := h
    refine ⟨h0, fun a ha => ?_⟩
    have : a = 0 ∨ a = 1 ∨ a = 2 ∨ a = 3 ∨ a = 4 ∨ a = 5 ∨ a = 6 ∨ a = 7 := by omega
    rcases this with rfl | rfl | rfl | rfl | rfl | rfl | rfl | rfl <;> assumption
  · rintro ⟨rfl, h⟩
    simp only [stK, h 0 (by omega), h 1 (by omega), h 2 (by omega), h 3 (by omega), h 4 (by omega), h 5 (by omega), h 6 (by omega), h 7 (by omega)]

/-- The shapes of the states, by the kinds so far. -/
def shK (out : Nat → Nat) (nx : Nat → Nat → Nat) (kd : Nat → Nat) (i : Nat) : St := stK (out i) (fun a => kd (nx i a))
theorem rf_rfn {out : Nat → Nat} {nx : Nat → Nat → Nat} {kd : Nat → Nat} {K : Nat} {kds : List Nat} {ss : List St} (h : RfI (shK out nx kd) K kds ss) : Rfn K out nx kd (kdL kds) := fun i j hi hj => by
  rw [rf_inj h hi hj]
  exact stK_inj

theorem two_set {w : World} {b : Nat} {x0 x1 : Value} (d0 : w.cell? ⟨b, 0, none⟩ = some x0) (d1 : w.cell? ⟨b, 1, none⟩ = some x1) (y0 y1 : Value) :
    ((w.setCell ⟨b, 0, none⟩ y0).setCell ⟨b, 1, none⟩ y1).rangeAt b 0 [y0, y1] := by
  have o : ∀ (w : World) (i j : Nat) (u : Value), i ≠ j → (w.setCell ⟨b, i, none⟩ u).cell? ⟨b, j, none⟩ = w.cell? ⟨b, j, none⟩ := fun w i j u h => World.cell?_setCell_other _ _ _ _ (fun q => h (by have := congrArg Addr.off q; simpa using this))
  intro j v hj
  rw [Nat.zero_add]
  cases j with
  | zero =>
    simp at hj
    subst hj
    rw [o _ 1 0 _ (by omega)]
    exact World.cell?_setCell_same _ _ _ d0
  | succ j => cases j with
    | zero =>
      simp at hj
      subst hj
      exact World.cell?_setCell_same _ _ _ (by rw [o _ 0 1 _ (by omega)]; exact d1)
    | succ j => simp at hj
theorem Try.sortSize : (Try.prog.info? 139).map (·.size) = some 2 := by kernel_rfl

def Refined (K : Nat) (sh : Nat → St) (w : World) (e : Ending) (w' : World) : Prop :=
  ∃ vK vH kds ss, e = .returned (.agg #[vK, vH]) ∧ RfI sh K kds ss ∧ Eight ss ∧ w'.ownsRow w.heap.size 3 1 vK kds.length (nInts kds) ∧ w'.ownsRow w.heap.size 137 9 vH ss.length (flatS ss) ∧ Below w.heap.size w w'

theorem rf_len {sh : Nat → St} {k : Nat} {kds : List Nat} {ss : List St} (h : RfI sh k kds ss) : ss.length ≤ k := by
  rw [h.cnt]; exact cnt_le h.fo k (Nat.le_refl _)

theorem nineM_cells {w : World} {b o : Nat} {f : Nat → Nat} (h : NineM w b o ((List.range 8).map f)) : w.cell? ⟨b, 0, none⟩ = some (.int .i64 (o : Nat)) ∧ ∀ m, m < 8 → w.cell? ⟨b, 1 + m, none⟩ = some (.int .i64 (f m : Nat)) :=
  ⟨h.c0, fun m hm => by rw [h.c m hm]; simp [List.getD, hm]⟩

set_option maxHeartbeats 8000000 in
set_option maxRecDepth 100000 in
theorem refine_any (K g cap B0 : Nat) (out : Nat → Nat) (nx : Nat → Nat → Nat) (kd0 : List Nat) (vK0 vH0 : Value) (w : World) (hK : K ≤ 796594185) (hr : w.ownsRow B0 137 9 (.slice (some ⟨g, 0, none⟩) K cap) K (flatS ((List.range K).map fun i => stK (out i) (nx i)))) (hg : g < w.heap.size) (hkd : NR w vK0 kd0) (hkl : kd0.length = K) (hH : ∃ a l c, vH0 = .slice a l c) (hc : ∀ i a, i < K → a < 8 → nx i a < K) :
    Calls Try.prog 75 #[.agg #[vK0, vH0], .slice (some ⟨g, 0, none⟩) K cap] w (Refined K (shK out nx (kdL kd0)) w) := by
  obtain ⟨aoK0, cpK0, rfl, hcpK0, hkrow⟩ := hkd
  obtain ⟨aH, lH, cH, rfl⟩ := hH
  rw [hkl] at hcpK0 hkrow
  rw [hkl]
  have HR := hid hr
  have HKR := hid hkrow
  have HCL := hid hc
  clear hr hkrow hc
  have b1 := (Below.refl w.heap.size w).alloc (Nat.le_refl _) (.cells #[.slice aoK0 K cpK0, .slice aH lH cH] 139)
  have b2 := b1.alloc (by simp) (.cells #[.slice none 0 0, .slice none 0 0] 139)
  have b3 := hid (b2.alloc (by simp; omega) (.cells #[.slice none 0 0, .slice none 0 0] 139))
  go_enter Try.func75, Try.ntmps75
  go_wp2_with fail
  have e2 : ((w.alloc (.cells #[.slice aoK0 K cpK0, .slice aH lH cH] 139)).alloc (.cells #[.slice none 0 0, .slice none 0 0] 139)).heap.size = w.heap.size + 2 := by simp
  have e1 : (w.alloc (.cells #[.slice aoK0 K cpK0, .slice aH lH cH] 139)).heap.size = w.heap.size + 1 := by simp
  have S0 := two_new ((w.alloc (.cells #[.slice aoK0 K cpK0, .slice aH lH cH] 139)).alloc (.cells #[.slice none 0 0, .slice none 0 0] 139)) (.slice none 0 0) (.slice none 0 0) 139
  rw [e2] at S0
  have A4 := (two_new (w.alloc (.cells #[.slice aoK0 K cpK0, .slice aH lH cH] 139)) (.slice none 0 0) (.slice none 0 0) 139).below ((Below.refl (w.heap.size + 2) _).alloc (by simp) (.cells #[.slice none 0 0, .slice none 0 0] 139)) (by simp)
  rw [e1] at A4
  have A2 := ((two_new w (.slice aoK0 K cpK0) (.slice aH lH cH) 139).below ((Below.refl (w.heap.size + 1) _).alloc (by simp) (.cells #[.slice none 0 0, .slice none 0 0] 139)) (by simp)).below ((Below.refl (w.heap.size + 2) _).alloc (by simp) (.cells #[.slice none 0 0, .slice none 0 0] 139)) (by simp)
  have S0 := hid S0
  have A4 := hid A4
  have A2 := hid A2
  clear b1 b2 e1 e2
  go_loopw [14] (fun i wq => ∃ (k : Nat) (kds : List Nat) (ss : List St) (vK vH : Value), k ≤ K ∧ i = .int .i64 k ∧ Hid (RfI (shK out nx (kdL kd0)) k kds ss) ∧ Hid (SoM wq (w.heap.size + 3) (w.heap.size + 2) vK vH kds ss) ∧ Hid (Two wq w.heap.size (.slice aoK0 K cpK0) (.slice aH lH cH)) ∧ Hid (Two wq (w.heap.size + 1) (.slice none 0 0) (.slice none 0 0)) ∧ Hid (Below w.heap.size w wq) ∧ w.heap.size + 3 ≤ wq.heap.size) (fun i _ => K - (intOf i).toNat)
  case atStart => exact ⟨0, [], [], _, _, Nat.zero_le _, rfl, hid (rf_start _), hid ⟨S0.out, by omega, World.ownsRow_nil _ _ _ _, World.ownsRow_nil _ _ _ _, fun s hs => by simp at hs⟩, A2, A4, b3, by simp⟩
  case round =>
    obtain ⟨k, kds, ss, vK, vH, hk, rfl, HI, HS, H2, H4, HB, hsz⟩ := hrel
    rename World => W0
    clear S0 A2 A4 b3
    have hssl := rf_len HI.out
    have hkdl := HI.out.len
    by_cases hlk : k < K
    · have hown := own_keeps HR.out HB.out
      have h8 : Eight ((List.range K).map fun i => stK (out i) (nx i)) := fun s hs => by
        obtain ⟨i, _, rfl⟩ := List.mem_map.1 hs
        rfl
      have hat : stAt ((List.range K).map fun i => stK (out i) (nx i)) k = stK (out k) (nx k) := by simp [stAt, List.getD, hlk]
      have cl : ∀ j u, j < 9 → (stCells (stK (out k) (nx k)))[j]? = some u → W0.cell? ⟨g, k * 9 + j, none⟩ = some u := fun j u hj hu => by
        rw [hown.cellAt (k * 9 + j) (by omega), flatS_get h8 (by simpa using hlk) hj, hat, hu]
      have y0 : W0.cell? ⟨g, k * 9, none⟩ = some (.int .i64 (out k : Nat)) := cl 0 _ (by omega) rfl
      have y1 : W0.cell? ⟨g, k * 9 + 1, none⟩ = some (.int .i64 (nx k 0 : Nat)) := cl 1 _ (by omega) rfl
      have y2 : W0.cell? ⟨g, k * 9 + 2, none⟩ = some (.int .i64 (nx k 1 : Nat)) := cl 2 _ (by omega) rfl
      have y3 : W0.cell? ⟨g, k * 9 + 3, none⟩ = some (.int .i64 (nx k 2 : Nat)) := cl 3 _ (by omega) rfl
      have y4 : W0.cell? ⟨g, k * 9 + 4, none⟩ = some (.int .i64 (nx k 3 : Nat)) := cl 4 _ (by omega) rfl
      have y5 : W0.cell? ⟨g, k * 9 + 5, none⟩ = some (.int .i64 (nx k 4 : Nat)) := cl 5 _ (by omega) rfl
      have y6 : W0.cell? ⟨g, k * 9 + 6, none⟩ = some (.int .i64 (nx k 5 : Nat)) := cl 6 _ (by omega) rfl
      have y7 : W0.cell? ⟨g, k * 9 + 7, none⟩ = some (.int .i64 (nx k 6 : Nat)) := cl 7 _ (by omega) rfl
      have y8 : W0.cell? ⟨g, k * 9 + 8, none⟩ = some (.int .i64 (nx k 7 : Nat)) := cl 8 _ (by omega) rfl
      have HX : Hid (∀ j, j < 8 → (#[Value.int .i64 (nx k 0 : Nat), .int .i64 (nx k 1 : Nat), .int .i64 (nx k 2 : Nat), .int .i64 (nx k 3 : Nat), .int .i64 (nx k 4 : Nat), .int .i64 (nx k 5 : Nat), .int .i64 (nx k 6 : Nat), .int .i64 (nx k 7 : Nat)] : Array Value)[j]? = some (.int .i64 (nx k j : Nat))) := hid (fun j hj => by
        have : j = 0 ∨ j = 1 ∨ j = 2 ∨ j = 3 ∨ j = 4 ∨ j = 5 ∨ j = 6 ∨ j = 7 := by omega
        rcases this with rfl | rfl | rfl | rfl | rfl | rfl | rfl | rfl <;> rfl)
      have HNX := hid (fun a (ha : a < 8) => HCL.out k a hlk ha)
      clear cl hat h8 hown
      have bA := (Below.refl W0.heap.size W0).alloc (Nat.le_refl _) (.cells #[.int .i64 (out k : Nat), .int .i64 (nx k 0 : Nat), .int .i64 (nx k 1 : Nat), .int .i64 (nx k 2 : Nat), .int .i64 (nx k 3 : Nat), .int .i64 (nx k 4 : Nat), .int .i64 (nx k 5 : Nat), .int .i64 (nx k 6 : Nat), .int .i64 (nx k 7 : Nat)] 137)
      have bB := bA.alloc (by simp) (.cells #[.int .i64 (out k : Nat), .int .i64 0, .int .i64 0, .int .i64 0, .int .i64 0, .int .i64 0, .int .i64 0, .int .i64 0, .int .i64 0] 137)
      have N0 := nine_new (W0.alloc (.cells #[.int .i64 (out k : Nat), .int .i64 (nx k 0 : Nat), .int .i64 (nx k 1 : Nat), .int .i64 (nx k 2 : Nat), .int .i64 (nx k 3 : Nat), .int .i64 (nx k 4 : Nat), .int .i64 (nx k 5 : Nat), .int .i64 (nx k 6 : Nat), .int .i64 (nx k 7 : Nat)] 137)) (out k) 137
      rw [show (W0.alloc (.cells #[.int .i64 (out k : Nat), .int .i64 (nx k 0 : Nat), .int .i64 (nx k 1 : Nat), .int .i64 (nx k 2 : Nat), .int .i64 (nx k 3 : Nat), .int .i64 (nx k 4 : Nat), .int .i64 (nx k 5 : Nat), .int .i64 (nx k 6 : Nat), .int .i64 (nx k 7 : Nat)] 137)).heap.size = W0.heap.size + 1 by simp] at N0
      have N0 := hid N0
      have BB := hid bB
      clear bA bB
      go_wp2_with fail
      clear y0 y1 y2 y3 y4 y5 y6 y7 y8
      go_loopw [23] (fun i wq => ∃ l : Nat, l ≤ 8 ∧ i = .int .i64 l ∧ Hid (NineM wq (W0.heap.size + 1) (out k) ((List.range l).map fun a => kdL kd0 (nx k a))) ∧ Hid (Below W0.heap.size W0 wq) ∧ W0.heap.size + 1 < wq.heap.size) (fun i _ => 8 - (intOf i).toNat)
      case atStart => exact ⟨0, by omega, rfl, N0, BB, by simp⟩
      case round =>
        obtain ⟨l, hl, rfl, HN, HBI, hszI⟩ := hrel
        rename World => W1
        clear N0 BB
        by_cases hll : l < 8
        · have IX := fun W => run_index_one (P := Try.prog) W Try.underlying135 (run_isAgg_int Try.underlying3) (by kernel_rfl) hll (HX.out l hll)
          have hto := HNX.out l hll
          obtain ⟨gK, eK, hgK, hkc⟩ := HKR.out (by omega)
          subst eK
          have z0 := (HBI.out.cell (p := ⟨w.heap.size, 0, none⟩) H2.out.lt).trans H2.out.c0
          have zc : W1.cell? ⟨gK, nx k l, none⟩ = some (.int .i64 (kdL kd0 (nx k l) : Nat)) := (HBI.out.cell (p := ⟨gK, nx k l, none⟩) (by show gK < W0.heap.size; omega)).trans ((HB.out.cell (p := ⟨gK, nx k l, none⟩) hgK).trans (hkc _ hto))
          have hdl : ((List.range l).map fun a => kdL kd0 (nx k a)).length = l := by simp
          have n1 := HN.out.c l hll
          have n2 := HN.out.f (1 + l) (by omega)
          have D8 := HN.out.set (j := kdL kd0 (nx k l)) (by rw [hdl]; exact hll)
          rw [hdl, show ((List.range l).map fun a => kdL kd0 (nx k a)) ++ [kdL kd0 (nx k l)] = (List.range (l + 1)).map fun a => kdL kd0 (nx k a) by rw [List.range_succ, List.map_append]; rfl] at D8
          have D8 := hid D8
          have DB := hid (HBI.out.setCell (p := ⟨W0.heap.size + 1, 1 + l, none⟩) (by show W0.heap.size ≤ W0.heap.size + 1; omega) (.int .i64 (kdL kd0 (nx k l) : Nat)))
          clear hkc hdl
          generalize ((List.range l).map fun a => kdL kd0 (nx k a)).getD l 0 = ov at *
          generalize kdL kd0 (nx k l) = kv at *
          generalize nx k l = to at *
          go_wp2_with fail
          go_roundw
          case rel => exact ⟨l + 1, by omega, by go_num, D8, DB, by simp; omega⟩
          case measure => simp [intOf]; omega
        · obtain rfl : l = 8 := by omega
          obtain ⟨q0, qc⟩ := nineM_cells HN.out
          have q1 : W1.cell? ⟨W0.heap.size + 1, 1, none⟩ = _ := qc 0 (by omega)
          have q2 : W1.cell? ⟨W0.heap.size + 1, 2, none⟩ = _ := qc 1 (by omega)
          have q3 : W1.cell? ⟨W0.heap.size + 1, 3, none⟩ = _ := qc 2 (by omega)
          have q4 : W1.cell? ⟨W0.heap.size + 1, 4, none⟩ = _ := qc 3 (by omega)
          have q5 : W1.cell? ⟨W0.heap.size + 1, 5, none⟩ = _ := qc 4 (by omega)
          have q6 : W1.cell? ⟨W0.heap.size + 1, 6, none⟩ = _ := qc 5 (by omega)
          have q7 : W1.cell? ⟨W0.heap.size + 1, 7, none⟩ = _ := qc 6 (by omega)
          have q8 : W1.cell? ⟨W0.heap.size + 1, 8, none⟩ = _ := qc 7 (by omega)
          have S1 := hid (HS.out.below HBI.out)
          have hW01 := HBI.out.size
          clear qc
          go_wp2_with fail
          refine (sadd_any W1 _ _ _ _ kds ss _ _ _ _ _ _ _ _ _ S1.out (by omega) (by omega) (by omega)).mono ?_
          rintro e w5 ⟨rfl, j, vK5, vH5, ss5, M5, K5, hcase⟩
          have R5 : Hid (RfI (shK out nx (kdL kd0)) (k + 1) (kds ++ [j]) ss5) := hid (by
            rcases hcase with ⟨rfl, h1⟩ | ⟨rfl, rfl, h1⟩
            · exact rf_old HI.out h1
            · exact rf_new HI.out h1)
          have nb : ∀ b, b < w.heap.size + 3 → b ≠ w.heap.size + 2 → w5.heap[b]? = W1.heap[b]? := fun b hb hne => K5.block b (by omega) hne (fun e => by have := (S1.out.kd.lt b e.symm).1; omega) (fun e => by have := (S1.out.sh.lt b e.symm).1; omega)
          have tw : ∀ b x y, b < w.heap.size + 3 → b ≠ w.heap.size + 2 → Two W1 b x y → Two w5 b x y := fun b x y hb hne h => ⟨(World.cell?_of_block (a := ⟨b, 0, none⟩) (nb b hb hne)).trans h.c0, (World.cell?_of_block (a := ⟨b, 1, none⟩) (nb b hb hne)).trans h.c1, (World.frozen?_of_block (a := ⟨b, 0, none⟩) (nb b hb hne)).trans h.f0, (World.frozen?_of_block (a := ⟨b, 1, none⟩) (nb b hb hne)).trans h.f1⟩
          have D2 := hid (tw _ _ _ (by omega) (by omega) (H2.out.below HBI.out H2.out.lt))
          have D4 := hid (tw _ _ _ (by omega) (by omega) (H4.out.below HBI.out H4.out.lt))
          have DB := hid (below_kb (HB.out.trans (HBI.out.mono HB.out.size)) K5 (by omega) (by omega) (fun q h => by have := (S1.out.kd.lt q h).1; omega) (fun q h => by have := (S1.out.sh.lt q h).1; omega))
          have M5 := hid M5
          have hs5 := K5.size
          clear hcase K5 nb tw S1 q0 q1 q2 q3 q4 q5 q6 q7 q8
          go_wp2_with fail
          go_roundw
          case rel => exact ⟨k + 1, kds ++ [j], ss5, vK5, vH5, by omega, by go_num, R5, M5, D2, D4, DB, by omega⟩
          case measure => simp [intOf]; omega
    · obtain rfl : k = K := by omega
      clear hkdl hssl
      obtain ⟨aoK, cpK, rfl⟩ := own_slice HS.out.kd
      obtain ⟨aoH, cpH, rfl⟩ := own_slice HS.out.sh
      have s0 := HS.out.t.c0
      have s1 := HS.out.t.c1
      have d0 := H4.out.c0
      have d1 := H4.out.c1
      have f0 := H4.out.f0
      have f1 := H4.out.f1
      go_wp2_with fail
      refine ret_cells (cs := [.slice aoK kds.length cpK, .slice aoH ss.length cpH]) (b := w.heap.size + 1) Try.results75 ?_ ?_ ?_ Try.underlying139 rfl Try.sortSize ?_
      · rfl
      · rfl
      · exact two_set d0 d1 _ _
      · refine ⟨_, _, kds, ss, rfl, HI.out, HS.out.e8, ?_, ?_, (HB.out.setCell (p := ⟨w.heap.size + 1, 0, none⟩) (by show w.heap.size ≤ w.heap.size + 1; omega) _).setCell (p := ⟨w.heap.size + 1, 1, none⟩) (by show w.heap.size ≤ w.heap.size + 1; omega) _⟩
        · exact own_mono (own_set_other (own_set_other HS.out.kd (show w.heap.size + 1 < w.heap.size + 3 by omega) 0 _) (show w.heap.size + 1 < w.heap.size + 3 by omega) 1 _) (by omega)
        · exact own_mono (own_set_other (own_set_other HS.out.sh (show w.heap.size + 1 < w.heap.size + 3 by omega) 0 _) (show w.heap.size + 1 < w.heap.size + 3 by omega) 1 _) (by omega)

end Go.Proofs.Ytjagijohfkffiab
