import Derived.Test.YtjagijohfkffiabKINM27

/- The walk of Smallest. -/
namespace Go.Proofs.Ytjagijohfkffiab
open Go.RowKit
set_option linter.unusedVariables false

/-- The states of the machine of a formula. -/
def MachS (ns : List Nd) (ss : List St) : Prop := ∃ out nx, Mach ns ss.length out nx ∧ ∀ c, c < ss.length → ss[c]? = some (stK (out c) (nx c))

section
variable {ns : List Nd} {liv : Nat → Bool} {us : List (List Nat)} {xs : List Nat}

/-- The kinds that Like allows; what one more letter tells apart was apart. -/
structure KdI (out : Nat → Nat) (nx : Nat → Nat → Nat) (K : Nat) (kds : List Nat) (n : Nat) : Prop where
  len : kds.length = K
  fo : Fo (kdL kds) K
  cnt : n = cntK (kdL kds) K
  like : ∀ i j, i < K → j < K → Like out nx out nx i j → kdL kds i = kdL kds j
  fin : ∀ kd', Rfn K out nx (kdL kds) kd' → ∀ i j, i < K → j < K → kd' i = kd' j → kdL kds i = kdL kds j

theorem kdL_rep (K i : Nat) : kdL (List.replicate K 0) i = 0 := by
  unfold kdL
  rw [List.getD]
  by_cases h : i < K
  · simp [h]
  · simp [List.getElem?_eq_none (show (List.replicate K 0).length ≤ i by simp; omega)]
theorem cnt_zero : ∀ m, cntK (fun _ => 0) (m + 1) = 1
  | 0 => rfl
  | m + 1 => by rw [cntK, cnt_zero m]; rfl
theorem kd_start (out : Nat → Nat) (nx : Nat → Nat → Nat) {K : Nat} (hK : 0 < K) : KdI out nx K (List.replicate K 0) 1 := by
  have e : kdL (List.replicate K 0) = fun _ => 0 := by funext i; exact kdL_rep K i
  obtain ⟨m, rfl⟩ : ∃ m, K = m + 1 := ⟨K - 1, by omega⟩
  refine ⟨by simp, fun i _ => by rw [kdL_rep]; exact Nat.zero_le _, by rw [e, cnt_zero], fun i j _ _ _ => by rw [kdL_rep, kdL_rep], fun kd' _ i j _ _ _ => by rw [kdL_rep, kdL_rep]⟩
theorem kd_next {out : Nat → Nat} {nx : Nat → Nat → Nat} {K n : Nat} {kds kds' : List Nat} {ss : List St} (hc : ∀ i a, i < K → a < 8 → nx i a < K) (h : KdI out nx K kds n) (hr : RfI (shK out nx (kdL kds)) K kds' ss) : KdI out nx K kds' ss.length ∧ n ≤ ss.length := by
  have hf := rf_rfn hr
  refine ⟨⟨hr.len, hr.fo, hr.cnt, rfn_like hc hf h.like, fun kd' hk => rfn_fine hc hf hk (h.fin _ hf)⟩, ?_⟩
  rw [h.cnt, hr.cnt]
  exact fine_cnt h.fo hr.fo (h.fin _ hf)

theorem kd_mach (hg : Good ns) (hl : LivP ns (calmsTo ns ns.length) liv) (hE : Expl ns liv (begB ns liv) us xs) (hx : xs.length = 8 * us.length) {kds kds' : List Nat} {ss : List St}
    (h : KdI (outU ns liv (begB ns liv) us) (nxL xs) us.length kds ss.length) (hr : RfI (shK (outU ns liv (begB ns liv) us) (nxL xs) (kdL kds)) us.length kds' ss) : MachS ns ss := by
  have hf := rf_rfn hr
  have same := fine_same h.fo hr.fo (h.fin _ hf) (by rw [← h.cnt, ← hr.cnt])
  have hc := expl_lt hE hx
  have ex : ∀ c, ∃ r, c < ss.length → r < us.length ∧ kdL kds' r = c := fun c => by
    by_cases hlt : c < ss.length
    · obtain ⟨r, h1, h2⟩ := cnt_ex hr.fo us.length (Nat.le_refl _) c (by rw [← hr.cnt]; exact hlt)
      exact ⟨r, fun _ => ⟨h1, h2⟩⟩
    · exact ⟨0, fun h => absurd h hlt⟩
  let rep : Nat → Nat := fun c => Classical.choose (ex c)
  have hrep : ∀ c, c < ss.length → rep c < us.length ∧ kdL kds' (rep c) = c := fun c => Classical.choose_spec (ex c)
  have key : ∀ i, i < us.length → kdL kds' i < ss.length ∧ shK (outU ns liv (begB ns liv) us) (nxL xs) (kdL kds) (rep (kdL kds' i)) = shK (outU ns liv (begB ns liv) us) (nxL xs) (kdL kds) i := fun i hi => by
    have h1 : kdL kds' i < ss.length := (List.getElem?_eq_some_iff.1 (hr.at_ i hi)).1
    obtain ⟨h2, h3⟩ := hrep _ h1
    exact ⟨h1, (rf_inj hr h2 hi).1 h3⟩
  refine ⟨fun c => outU ns liv (begB ns liv) us (rep c), fun c a => kdL kds (nxL xs (rep c) a), ?_, fun c hlt => ?_⟩
  · have hm := kinds_mach hg hl hE hx (kd := kdL kds') (out' := fun c => outU ns liv (begB ns liv) us (rep c)) (nx' := fun c a => kdL kds (nxL xs (rep c) a)) hr.fo ⟨fun i hi => (stK_inj.1 (key i hi).2).1, fun i a hi ha => by
      have h9 : kdL kds (nxL xs (rep (kdL kds' i)) a) = kdL kds (nxL xs i a) := (stK_inj.1 (key i hi).2).2 a ha
      show kdL kds (nxL xs (rep (kdL kds' i)) a) = kdL kds' (nxL xs i a)
      rw [h9, same _ (hc i a hi ha)]⟩ (rfn_like hc hf h.like)
    rw [← hr.cnt] at hm
    exact hm
  · obtain ⟨h2, h3⟩ := hrep c hlt
    have := hr.at_ _ h2
    rw [h3] at this
    exact this
end

/-- make([]T, n), as a step of a region that draws. -/
theorem step_make_full {P : Program} (w : World) {ops : Array Oper} {o : Oper} {a : Act} {K : Act → World → Prop} {Q : Exit → Act → World → Prop} {E : Prop} (hg : o.guard = none) (l c : Operand) (t : TypeId) (hop : o.op = Op.makeSlice t l c)
    (base : Nat) (e : TypeId) (i : TypeInfo) (z : Value) (size : Nat) (h1 : P.underlying t = some (.slice e)) (h2 : P.info? e = some i) (h3 : i.zero = some z) (h4 : i.size = size)
    (kl kc : IntKind) (L C : Int) (n : Nat) (hl : a.eval l = .int kl L) (hc : a.eval c = .int kc C) (hL : L = (n : Int)) (hC : C = (n : Int)) (b2 : i.bytes * n ≤ 281474976710656) (b3 : n ≤ maxLen) (b4 : base ≤ w.heap.size)
    (hK : ∀ w', w'.ownsRow base e size (.slice (some ⟨w.heap.size, 0, none⟩) n n) n (madeCells z.cells (n * size)).toList → w.grownBy w' none → K (a.put o.dst (.slice (some ⟨w.heap.size, 0, none⟩) n n)) w') :
    if Region.wanted o (yielded ops a.tmps) = true then Oper.wp P o a w K Q else E := by
  have hw : Region.wanted o (yielded ops a.tmps) = true := by simp [Region.wanted, hg]
  rw [if_pos hw]
  obtain ⟨w', hrun, r1, r2⟩ := run_make_full (P := P) w base t e i z size h1 h2 h3 h4 kl kc n b2 b3 b4
  subst hL
  subst hC
  unfold Oper.wp
  simp [execOp, hop, hl, hc, hrun, Result.andThen]
  exact hK w' r1 r2

theorem two_grown {w w' : World} {b : Nat} {x y : Value} (h : Two w b x y) (hg : w.grownBy w' none) : Two w' b x y := by
  have hb := hg.block b h.lt (by simp)
  exact ⟨(World.cell?_of_block (a := ⟨b, 0, none⟩) hb).trans h.c0, (World.cell?_of_block (a := ⟨b, 1, none⟩) hb).trans h.c1, (World.frozen?_of_block (a := ⟨b, 0, none⟩) hb).trans h.f0, (World.frozen?_of_block (a := ⟨b, 1, none⟩) hb).trans h.f1⟩

def lenAt (w : World) (b : Nat) : Nat := match w.cell? ⟨b, 1, none⟩ with
  | some (.slice _ n _) => n
  | _ => 0
theorem lenAt_two {w : World} {b : Nat} {x : Value} {ao : Option Addr} {n c : Nat} (h : Two w b x (.slice ao n c)) : lenAt w b = n := by unfold lenAt; rw [h.c1]

def Smalled (ns : List Nd) (w : World) (e : Ending) (w' : World) : Prop :=
  ((∃ ss v, e = .returned (.tuple #[v, .bool true]) ∧ w'.ownsRow w.heap.size 137 9 v ss.length (flatS ss) ∧ Eight ss ∧ ss.length ≤ 8 ∧ MachS ns ss) ∨ (e = .returned (.tuple #[.slice none 0 0, .bool false]) ∧ Big ns)) ∧ Below w.heap.size w w'

set_option maxHeartbeats 4000000 in
set_option maxRecDepth 100000 in
theorem small_any (ns : List Nd) (liv : Nat → Bool) (us : List (List Nat)) (xs : List Nat) (g cap B0 : Nat) (w : World) (hg : Good ns) (hl : LivP ns (calmsTo ns ns.length) liv) (hE : Expl ns liv (begB ns liv) us xs) (hx : xs.length = 8 * us.length) (hK : us.length ≤ 796594185)
    (hr : w.ownsRow B0 137 9 (.slice (some ⟨g, 0, none⟩) us.length cap) us.length (flatS ((List.range us.length).map fun i => stK (outU ns liv (begB ns liv) us i) (nxL xs i)))) (hgl : g < w.heap.size) :
    Calls Try.prog 40 #[.slice (some ⟨g, 0, none⟩) us.length cap] w (Smalled ns w) := by
  have hK0 : 0 < us.length := (List.getElem?_eq_some_iff.1 hE.first).1
  have HC := hid (expl_lt hE hx)
  have HST := hid (kd_start (outU ns liv (begB ns liv) us) (nxL xs) hK0)
  have HMA := hid (fun (kds kds' : List Nat) (ss : List St) (h : KdI (outU ns liv (begB ns liv) us) (nxL xs) us.length kds ss.length) hr => kd_mach hg hl hE hx (kds' := kds') h hr)
  have HBG := hid (fun (kds : List Nat) (n : Nat) (h : KdI (outU ns liv (begB ns liv) us) (nxL xs) us.length kds n) (h8 : 8 < n) => kinds_big hg hl hE hx (kd := kdL kds) h.fo h.like (by rw [← h.cnt]; exact h8))
  have HR := hid hr
  obtain ⟨i0, hi, hz0, hz1, hz2⟩ := info_parts Try.infoIntE
  obtain ⟨i1, hi1, hz01, hz11, hz21⟩ := info_parts Try.infoSt9
  clear hr hE hx hl hg
  generalize outU ns liv (begB ns liv) us = out at *
  generalize nxL xs = nx at *
  generalize us.length = K at *
  go_enter Try.func40, Try.ntmps40
  go_wp2_with fail
  rename_i KK hKK
  have CONT : ∀ (W : World) (S gK gH : Nat), Hid (Two W S (.slice (some ⟨gK, 0, none⟩) K K) (.slice (some ⟨gH, 0, none⟩) 1 1)) → Hid (W.ownsRow w.heap.size 3 1 (.slice (some ⟨gK, 0, none⟩) K K) K (madeCells (Value.int .i64 0).cells (K * 1)).toList) → Hid (Below w.heap.size w W) → w.heap.size ≤ S → KK { tmps := #[.slice (some ⟨g, 0, none⟩) K cap, undef, .slice none 0 0, .bool false, .pointer (some ⟨S, 0, none⟩), undef, .slice (some ⟨g, 0, none⟩) K cap, .int .i64 (K : Nat), .slice (some ⟨gK, 0, none⟩) K K, .slice (some ⟨gH, 0, none⟩) 1 1, .agg #[.slice (some ⟨gK, 0, none⟩) K K, .slice (some ⟨gH, 0, none⟩) 1 1], undef, undef, undef, undef, undef, undef, undef, undef, undef, undef, undef, undef, undef, undef, undef, undef, undef], defers := [] } W := by
    intro W S gK gH TW OW BW hSle
    have hne0 : (List.replicate K 0).length = K := by simp
    have NK : Hid (NR W (.slice (some ⟨gK, 0, none⟩) K K) (List.replicate K 0)) := hid (by
      have h9 := own_nr (B := w.heap.size) (v := .slice (some ⟨gK, 0, none⟩) K K) (l := List.replicate K 0) (w := W) (by
        rw [hne0]
        have e9 : (madeCells (Value.int .i64 0).cells (K * 1)).toList = nInts (List.replicate K 0) := by
          rw [show (Value.int .i64 0).cells = #[Value.int .i64 0] from rfl, Nat.mul_one, toList_madeCells_one]
          simp [nInts]
        rw [← e9]
        exact OW.out)
      exact h9)
    clear OW
    go_wp2_with fail
    go_loopw [5] (fun v5 wq => ∃ (kds : List Nat) (n : Nat) (vK : Value) (ao : Option Addr) (c : Nat), Hid (KdI out nx K kds n) ∧ Hid (NR wq vK kds) ∧ Hid (Two wq S vK (.slice ao n c)) ∧ Hid (Below w.heap.size w wq)) (fun _ wq => 10 - lenAt wq S)
    case atStart => exact ⟨_, 1, _, _, 1, HST, NK, TW, BW⟩
    case round =>
      obtain ⟨kds, n, vK, ao, c, HKD, HNR, HTW, HB⟩ := hrel
      rename World => W0
      clear TW NK BW
      have t0 := HTW.out.c0
      have t1 := HTW.out.c1
      have hSl := HTW.out.lt
      have HLA := hid (lenAt_two HTW.out)
      have HKL := hid HKD.out.len
      obtain ⟨aoK, cpK, eK, hcK, hrK⟩ := HNR.out
      subst eK
      by_cases hn : n ≤ 8
      · have h8 : (n : Int) ≤ 8 := by omega
        go_wp2_with fail
        refine (refine_any K g cap B0 out nx kds (.slice aoK kds.length cpK) (.slice ao n c) W0 hK (own_keeps HR.out HB.out) (Nat.lt_of_lt_of_le hgl HB.out.size) HNR.out HKL.out ⟨_, _, _, rfl⟩ HC.out).mono ?_
        rintro e w5 ⟨vK5, vH5, kds5, ss5, rfl, hRF, h85, oK5, oH5, hb5⟩
        obtain ⟨hkd5, hle5⟩ := kd_next HC.out HKD.out hRF
        obtain ⟨aoK5, cpK5, rfl⟩ := own_slice oK5
        obtain ⟨aoH5, cpH5, rfl⟩ := own_slice oH5
        have HTW5 := hid (HTW.out.below hb5 hSl)
        have HB5 := hid (HB.out.trans (hb5.mono HB.out.size))
        have hs5 := hb5.size
        have ba := (Below.refl w5.heap.size w5).alloc (Nat.le_refl _) (.cells #[.slice aoK5 kds5.length cpK5, .slice aoH5 ss5.length cpH5] 139)
        have HTW6 := hid (HTW5.out.below ba (by omega))
        have HB6 := hid (HB5.out.trans (ba.mono HB5.out.size))
        have OKR := hid oK5
        have OH6 := hid (own_keeps oH5 ba)
        have q1 := HTW6.out.c1
        have q0 := HTW6.out.c0
        have f0 := HTW6.out.f0
        have f1 := HTW6.out.f1
        have hSw5 : S < w5.heap.size := by omega
        have HRF := hid hRF
        have HKD5 := hid hkd5
        have H85 := hid h85
        have p1 := HTW5.out.c1
        have p0 := HTW5.out.c0
        have g0 := HTW5.out.f0
        have g1 := HTW5.out.f1
        clear hRF hkd5 h85 oK5 oH5 hb5 t0 t1
        by_cases he : ss5.length = n
        · have HM := hid (HMA.out kds kds5 ss5 (by rw [he]; exact HKD.out) HRF.out)
          have OHF := hid (own_mono OH6.out (show w.heap.size ≤ W0.heap.size from HB.out.size))
          subst he
          clear ba
          go_wp2_with fail
          go_ret2
          exact ⟨Or.inl ⟨ss5, _, rfl, OHF.out, H85.out, hn, HM.out⟩, HB6.out⟩
        · have he1 : ¬ ((ss5.length : Int) = (n : Int)) := by omega
          have D1 := hid (((HTW5.out.set0 (.slice aoK5 kds5.length cpK5)).set1 (.slice aoH5 ss5.length cpH5)).below ((Below.refl w5.heap.size _).alloc (by simp) (.cells #[.slice aoK5 kds5.length cpK5, .slice aoH5 ss5.length cpH5] 139)) hSw5)
          have D3 := hid (((HB5.out.setCell (p := ⟨S, 0, none⟩) hSle (.slice aoK5 kds5.length cpK5)).setCell (p := ⟨S, 1, none⟩) hSle (.slice aoH5 ss5.length cpH5)).alloc (by have := HB5.out.size; simp; omega) (.cells #[.slice aoK5 kds5.length cpK5, .slice aoH5 ss5.length cpH5] 139))
          have D2 := hid (own_nr ((own_set_other (own_set_other OKR.out (show S < W0.heap.size from hSl) 0 (.slice aoK5 kds5.length cpK5)) (show S < W0.heap.size from hSl) 1 (.slice aoH5 ss5.length cpH5)).alloc (.cells #[.slice aoK5 kds5.length cpK5, .slice aoH5 ss5.length cpH5] 139)))
          have HLN := hid (lenAt_two D1.out)
          clear ba
          go_wp2_with fail
          go_roundw
          case rel => exact ⟨kds5, ss5.length, _, _, _, HKD5, D2, D1, D3⟩
          case measure =>
            have h1 := HLN.out
            have h2 := HLA.out
            omega
      · have h8 : ¬ ((n : Int) ≤ 8) := by omega
        have HBB := hid (HBG.out kds n HKD.out (by omega))
        go_wp2_with fail
        go_ret2
        exact ⟨Or.inr ⟨rfl, HBB.out⟩, HB.out⟩
  refine wp_region_held_drew (S := fun _ => True) (by kernel_rfl) trivial (fun hHeld => ?_)
  refine wpAnyH_take (i := 0) (oi := { dst := some 6, op := Op.move (.tmp 0), type := _, pos := _, after := _, guard := none }) (v := (Value.slice (some ⟨g, 0, none⟩) K cap)) rfl (by kernel_rfl) (by kernel_rfl) (by kernel_rfl) (fun _ _ _ h => h) (Or.inl ⟨by rfl, by intro w' hSw; (try dsimp only at hSw); go_simp⟩) (by assumption) ?_
  simp only [Act.put, List.setIfInBounds_toArray, List.set_cons_zero, List.set_cons_succ]
  refine wpAnyH_take (i := 1) (oi := { dst := some 7, op := Op.call { callee := Callee.builtin Builtin.len, args := #[.tmp 6], argTypes := _ }, type := _, pos := _, after := _, guard := none }) (v := (Value.int .i64 (K : Nat))) rfl (by kernel_rfl) (by kernel_rfl) (by kernel_rfl) (fun _ _ _ h => h) (Or.inl ⟨by rfl, by intro w' hSw; (try dsimp only at hSw); go_simp⟩) (by assumption) ?_
  simp only [Act.put, List.setIfInBounds_toArray, List.set_cons_zero, List.set_cons_succ]
  have bel : Below w.heap.size w w.drew := (Below.refl w.heap.size w).drew
  refine wpAnyH_ready (rs := [2, 3, 5]) (by kernel_rfl) (by simp) ?_
  refine AllReadyH.cons rfl (fun KX hK => ?_) (AllReadyH.cons rfl (fun KX hK => ?_) (AllReadyH.cons rfl (fun KX hK => ?_) AllReadyH.nil))
  · refine step_make_full _ (by rfl) (.tmp 7) (.tmp 7) 22 (by rfl) w.heap.size 3 i0 (.int .i64 0) 1 Try.underlying22 hi hz0 hz1 .i64 .i64 K K K (by rfl) (by rfl) rfl rfl (by rw [hz2]; omega) (by unfold maxLen; omega) (by first | exact bel.size | (have h9 := bel.size; simp; omega)) ?_
    intro wM own gM
    refine hK.out _ _ trivial (fun hHeld => ?_)
    clear hK KX
    try simp only [Act.put]
    try simp only [List.setIfInBounds_toArray]
    have bel : Below w.heap.size w wM := bel.grown gM (by first | exact bel.size | (have h9 := bel.size; simp; omega)) (fun k h => by cases h)
    refine wpAnyH_ready (rs := [3, 5]) (by kernel_rfl) (by simp) ?_
    refine AllReadyH.cons rfl (fun KX hK => ?_) (AllReadyH.cons rfl (fun KX hK => ?_) AllReadyH.nil)
    · refine step_make_full _ (by rfl) (.const (.int .i64 1)) (.const (.int .i64 1)) 75 (by rfl) w.heap.size 137 i1 (.agg #[.int .i64 0, .int .i64 0, .int .i64 0, .int .i64 0, .int .i64 0, .int .i64 0, .int .i64 0, .int .i64 0, .int .i64 0]) 9 Try.underlying75 hi1 hz01 hz11 .i64 .i64 1 1 1 (by rfl) (by rfl) rfl rfl (by rw [hz21]; omega) (by unfold maxLen; omega) (by first | exact bel.size | (have h9 := bel.size; simp; omega)) ?_
      intro wH oH gH
      have own := own.kept gH (Or.inr (by simp [Value.ownBlock]))
      refine hK.out _ _ trivial (fun hHeld => ?_)
      clear hK KX
      try simp only [Act.put]
      try simp only [List.setIfInBounds_toArray]
      have bel : Below w.heap.size w wH := bel.grown gH (by first | exact bel.size | (have h9 := bel.size; simp; omega)) (fun k h => by cases h)
      refine wpAnyH_take (i := 4) (oi := { dst := some 10, op := Op.build 139 #[(0, .tmp 8), (1, .tmp 9)], type := _, pos := _, after := _, guard := none }) (v := .agg #[.slice (some ⟨w.heap.size, 0, none⟩) K K, .slice (some ⟨(wM).heap.size, 0, none⟩) 1 1]) rfl (by kernel_rfl) (by kernel_rfl) (by kernel_rfl) (fun _ _ _ h => h) (Or.inl ⟨by rfl, by intro w' hSw; go_simp⟩) (by assumption) ?_
      try simp only [Act.put]
      try simp only [List.setIfInBounds_toArray]
      refine wpAnyH_ready (rs := [5]) (by kernel_rfl) (by simp) ?_
      refine AllReadyH.cons rfl (fun KX hK => ?_) AllReadyH.nil
      go_simp
      refine hK.out _ _ trivial (fun hHeld => ?_)
      clear hK KX
      try simp only [Act.put]
      try simp only [List.setIfInBounds_toArray]
      refine wpAnyH_ready (rs := [6]) (by kernel_rfl) (by simp) ?_
      refine AllReadyH.cons rfl (fun KX hK => ?_) AllReadyH.nil
      go_simp
      refine hK.out _ _ trivial (fun hHeld => ?_)
      clear hK KX
      refine wpAnyH_done (by kernel_rfl) ?_ _
      exact CONT _ (wH).heap.size (w.heap.size) ((wM).heap.size) (hid (two_new (wH) (.slice (some ⟨w.heap.size, 0, none⟩) K K) (.slice (some ⟨(wM).heap.size, 0, none⟩) 1 1) 139)) (hid (own.alloc _)) (hid (bel.alloc bel.size _)) bel.size
    · go_simp
      refine hK.out _ _ trivial (fun hHeld => ?_)
      clear hK KX
      try simp only [Act.put]
      try simp only [List.setIfInBounds_toArray]
      have hne : (wM).heap.size ≠ w.heap.size := fun e => Nat.lt_irrefl _ (Nat.lt_of_lt_of_eq (own.lt _ rfl).2 e)
      have own := own.alloc (.cells #[.slice none 0 0, .slice none 0 0] 139)
      have hSl : w.heap.size ≤ (wM).heap.size := bel.size
      have tw : Two ((wM).alloc (.cells #[.slice none 0 0, .slice none 0 0] 139)) (wM).heap.size (.slice none 0 0) (.slice none 0 0) := two_new (wM) (.slice none 0 0) (.slice none 0 0) 139
      have bel := bel.alloc bel.size (.cells #[.slice none 0 0, .slice none 0 0] 139)
      refine wpAnyH_ready (rs := [3]) (by kernel_rfl) (by simp) ?_
      refine AllReadyH.cons rfl (fun KX hK => ?_) AllReadyH.nil
      · refine step_make_full _ (by rfl) (.const (.int .i64 1)) (.const (.int .i64 1)) 75 (by rfl) w.heap.size 137 i1 (.agg #[.int .i64 0, .int .i64 0, .int .i64 0, .int .i64 0, .int .i64 0, .int .i64 0, .int .i64 0, .int .i64 0, .int .i64 0]) 9 Try.underlying75 hi1 hz01 hz11 .i64 .i64 1 1 1 (by rfl) (by rfl) rfl rfl (by rw [hz21]; omega) (by unfold maxLen; omega) (by first | exact bel.size | (have h9 := bel.size; simp; omega)) ?_
        intro wH oH gH
        have own := own.kept gH (Or.inr (by simp [Value.ownBlock]))
        have tw := two_grown tw gH
        refine hK.out _ _ trivial (fun hHeld => ?_)
        clear hK KX
        try simp only [Act.put]
        try simp only [List.setIfInBounds_toArray]
        have bel : Below w.heap.size w wH := bel.grown gH (by first | exact bel.size | (have h9 := bel.size; simp; omega)) (fun k h => by cases h)
        refine wpAnyH_take (i := 4) (oi := { dst := some 10, op := Op.build 139 #[(0, .tmp 8), (1, .tmp 9)], type := _, pos := _, after := _, guard := none }) (v := .agg #[.slice (some ⟨w.heap.size, 0, none⟩) K K, .slice (some ⟨(wM).heap.size + 1, 0, none⟩) 1 1]) rfl (by kernel_rfl) (by kernel_rfl) (by kernel_rfl) (fun _ _ _ h => h) (Or.inl ⟨by rfl, by intro w' hSw; go_simp⟩) (by assumption) ?_
        try simp only [Act.put]
        try simp only [List.setIfInBounds_toArray]
        have t0 := tw.c0
        have t1 := tw.c1
        have u0 := tw.f0
        have u1 := tw.f1
        refine wpAnyH_ready (rs := [6]) (by kernel_rfl) (by simp) ?_
        refine AllReadyH.cons rfl (fun KX hK => ?_) AllReadyH.nil
        go_simp
        refine hK.out _ _ trivial (fun hHeld => ?_)
        clear hK KX
        refine wpAnyH_done (by kernel_rfl) ?_ _
        exact CONT _ ((wM).heap.size) (w.heap.size) ((wM).heap.size + 1) (hid ((tw.set0 _).set1 _)) (hid (own_setx' (own_setx' own ⟨(wM).heap.size, 0, none⟩ _ (fun e => hne (Option.some.inj e).symm)) ⟨(wM).heap.size, 1, none⟩ _ (fun e => hne (Option.some.inj e).symm))) (hid ((bel.setCell (p := ⟨(wM).heap.size, 0, none⟩) hSl _).setCell (p := ⟨(wM).heap.size, 1, none⟩) hSl _)) hSl
  · refine step_make_full _ (by rfl) (.const (.int .i64 1)) (.const (.int .i64 1)) 75 (by rfl) w.heap.size 137 i1 (.agg #[.int .i64 0, .int .i64 0, .int .i64 0, .int .i64 0, .int .i64 0, .int .i64 0, .int .i64 0, .int .i64 0, .int .i64 0]) 9 Try.underlying75 hi1 hz01 hz11 .i64 .i64 1 1 1 (by rfl) (by rfl) rfl rfl (by rw [hz21]; omega) (by unfold maxLen; omega) (by first | exact bel.size | (have h9 := bel.size; simp; omega)) ?_
    intro wH oH gH
    refine hK.out _ _ trivial (fun hHeld => ?_)
    clear hK KX
    try simp only [Act.put]
    try simp only [List.setIfInBounds_toArray]
    have bel : Below w.heap.size w wH := bel.grown gH (by first | exact bel.size | (have h9 := bel.size; simp; omega)) (fun k h => by cases h)
    refine wpAnyH_ready (rs := [2, 5]) (by kernel_rfl) (by simp) ?_
    refine AllReadyH.cons rfl (fun KX hK => ?_) (AllReadyH.cons rfl (fun KX hK => ?_) AllReadyH.nil)
    · refine step_make_full _ (by rfl) (.tmp 7) (.tmp 7) 22 (by rfl) w.heap.size 3 i0 (.int .i64 0) 1 Try.underlying22 hi hz0 hz1 .i64 .i64 K K K (by rfl) (by rfl) rfl rfl (by rw [hz2]; omega) (by unfold maxLen; omega) (by first | exact bel.size | (have h9 := bel.size; simp; omega)) ?_
      intro wM own gM
      refine hK.out _ _ trivial (fun hHeld => ?_)
      clear hK KX
      try simp only [Act.put]
      try simp only [List.setIfInBounds_toArray]
      have bel : Below w.heap.size w wM := bel.grown gM (by first | exact bel.size | (have h9 := bel.size; simp; omega)) (fun k h => by cases h)
      refine wpAnyH_take (i := 4) (oi := { dst := some 10, op := Op.build 139 #[(0, .tmp 8), (1, .tmp 9)], type := _, pos := _, after := _, guard := none }) (v := .agg #[.slice (some ⟨(wH).heap.size, 0, none⟩) K K, .slice (some ⟨w.heap.size, 0, none⟩) 1 1]) rfl (by kernel_rfl) (by kernel_rfl) (by kernel_rfl) (fun _ _ _ h => h) (Or.inl ⟨by rfl, by intro w' hSw; go_simp⟩) (by assumption) ?_
      try simp only [Act.put]
      try simp only [List.setIfInBounds_toArray]
      refine wpAnyH_ready (rs := [5]) (by kernel_rfl) (by simp) ?_
      refine AllReadyH.cons rfl (fun KX hK => ?_) AllReadyH.nil
      go_simp
      refine hK.out _ _ trivial (fun hHeld => ?_)
      clear hK KX
      try simp only [Act.put]
      try simp only [List.setIfInBounds_toArray]
      refine wpAnyH_ready (rs := [6]) (by kernel_rfl) (by simp) ?_
      refine AllReadyH.cons rfl (fun KX hK => ?_) AllReadyH.nil
      go_simp
      refine hK.out _ _ trivial (fun hHeld => ?_)
      clear hK KX
      refine wpAnyH_done (by kernel_rfl) ?_ _
      exact CONT _ (wM).heap.size ((wH).heap.size) (w.heap.size) (hid (two_new (wM) (.slice (some ⟨(wH).heap.size, 0, none⟩) K K) (.slice (some ⟨w.heap.size, 0, none⟩) 1 1) 139)) (hid (own.alloc _)) (hid (bel.alloc bel.size _)) bel.size
    · go_simp
      refine hK.out _ _ trivial (fun hHeld => ?_)
      clear hK KX
      try simp only [Act.put]
      try simp only [List.setIfInBounds_toArray]
      have hSl : w.heap.size ≤ (wH).heap.size := bel.size
      have tw : Two ((wH).alloc (.cells #[.slice none 0 0, .slice none 0 0] 139)) (wH).heap.size (.slice none 0 0) (.slice none 0 0) := two_new (wH) (.slice none 0 0) (.slice none 0 0) 139
      have bel := bel.alloc bel.size (.cells #[.slice none 0 0, .slice none 0 0] 139)
      refine wpAnyH_ready (rs := [2]) (by kernel_rfl) (by simp) ?_
      refine AllReadyH.cons rfl (fun KX hK => ?_) AllReadyH.nil
      · refine step_make_full _ (by rfl) (.tmp 7) (.tmp 7) 22 (by rfl) w.heap.size 3 i0 (.int .i64 0) 1 Try.underlying22 hi hz0 hz1 .i64 .i64 K K K (by rfl) (by rfl) rfl rfl (by rw [hz2]; omega) (by unfold maxLen; omega) (by first | exact bel.size | (have h9 := bel.size; simp; omega)) ?_
        intro wM own gM
        have own : wM.ownsRow w.heap.size 3 1 (.slice (some ⟨(wH).heap.size + 1, 0, none⟩) K K) K (madeCells (Value.int .i64 0).cells (K * 1)).toList := by
          have h9 := own
          first | (simp only [World.size_alloc] at h9; exact h9) | (rw [show (w.alloc (.cells #[.slice none 0 0, .slice none 0 0] 139)).drew.heap.size = w.heap.size + 1 from World.size_alloc ..] at h9; exact h9)
        have hne : (wH).heap.size ≠ (wH).heap.size + 1 := fun e => Nat.lt_irrefl _ (Nat.lt_of_lt_of_eq tw.lt (by rw [World.size_alloc]; exact e.symm))
        have tw := two_grown tw gM
        refine hK.out _ _ trivial (fun hHeld => ?_)
        clear hK KX
        try simp only [Act.put]
        try simp only [List.setIfInBounds_toArray]
        have bel : Below w.heap.size w wM := bel.grown gM (by first | exact bel.size | (have h9 := bel.size; simp; omega)) (fun k h => by cases h)
        refine wpAnyH_take (i := 4) (oi := { dst := some 10, op := Op.build 139 #[(0, .tmp 8), (1, .tmp 9)], type := _, pos := _, after := _, guard := none }) (v := .agg #[.slice (some ⟨(wH).heap.size + 1, 0, none⟩) K K, .slice (some ⟨w.heap.size, 0, none⟩) 1 1]) rfl (by kernel_rfl) (by kernel_rfl) (by kernel_rfl) (fun _ _ _ h => h) (Or.inl ⟨by rfl, by intro w' hSw; go_simp⟩) (by assumption) ?_
        try simp only [Act.put]
        try simp only [List.setIfInBounds_toArray]
        have t0 := tw.c0
        have t1 := tw.c1
        have u0 := tw.f0
        have u1 := tw.f1
        refine wpAnyH_ready (rs := [6]) (by kernel_rfl) (by simp) ?_
        refine AllReadyH.cons rfl (fun KX hK => ?_) AllReadyH.nil
        go_simp
        refine hK.out _ _ trivial (fun hHeld => ?_)
        clear hK KX
        refine wpAnyH_done (by kernel_rfl) ?_ _
        exact CONT _ ((wH).heap.size) ((wH).heap.size + 1) (w.heap.size) (hid ((tw.set0 _).set1 _)) (hid (own_setx' (own_setx' own ⟨(wH).heap.size, 0, none⟩ _ (fun e => hne (Option.some.inj e).symm)) ⟨(wH).heap.size, 1, none⟩ _ (fun e => hne (Option.some.inj e).symm))) (hid ((bel.setCell (p := ⟨(wH).heap.size, 0, none⟩) hSl _).setCell (p := ⟨(wH).heap.size, 1, none⟩) hSl _)) hSl
  · go_simp
    refine hK.out _ _ trivial (fun hHeld => ?_)
    clear hK KX
    try simp only [Act.put]
    try simp only [List.setIfInBounds_toArray]
    have hSl : w.heap.size ≤ w.heap.size := bel.size
    have tw : Two ((w.drew).alloc (.cells #[.slice none 0 0, .slice none 0 0] 139)) w.heap.size (.slice none 0 0) (.slice none 0 0) := two_new (w.drew) (.slice none 0 0) (.slice none 0 0) 139
    have bel := bel.alloc bel.size (.cells #[.slice none 0 0, .slice none 0 0] 139)
    refine wpAnyH_ready (rs := [2, 3]) (by kernel_rfl) (by simp) ?_
    refine AllReadyH.cons rfl (fun KX hK => ?_) (AllReadyH.cons rfl (fun KX hK => ?_) AllReadyH.nil)
    · refine step_make_full _ (by rfl) (.tmp 7) (.tmp 7) 22 (by rfl) w.heap.size 3 i0 (.int .i64 0) 1 Try.underlying22 hi hz0 hz1 .i64 .i64 K K K (by rfl) (by rfl) rfl rfl (by rw [hz2]; omega) (by unfold maxLen; omega) (by first | exact bel.size | (have h9 := bel.size; simp; omega)) ?_
      intro wM own gM
      have own : wM.ownsRow w.heap.size 3 1 (.slice (some ⟨w.heap.size + 1, 0, none⟩) K K) K (madeCells (Value.int .i64 0).cells (K * 1)).toList := by
        have h9 := own
        first | (simp only [World.size_alloc] at h9; exact h9) | (rw [show (w.alloc (.cells #[.slice none 0 0, .slice none 0 0] 139)).drew.heap.size = w.heap.size + 1 from World.size_alloc ..] at h9; exact h9)
      have hne : w.heap.size ≠ w.heap.size + 1 := fun e => Nat.lt_irrefl _ (Nat.lt_of_lt_of_eq tw.lt (by rw [World.size_alloc]; exact e.symm))
      have tw := two_grown tw gM
      refine hK.out _ _ trivial (fun hHeld => ?_)
      clear hK KX
      try simp only [Act.put]
      try simp only [List.setIfInBounds_toArray]
      have bel : Below w.heap.size w wM := bel.grown gM (by first | exact bel.size | (have h9 := bel.size; simp; omega)) (fun k h => by cases h)
      refine wpAnyH_ready (rs := [3]) (by kernel_rfl) (by simp) ?_
      refine AllReadyH.cons rfl (fun KX hK => ?_) AllReadyH.nil
      · refine step_make_full _ (by rfl) (.const (.int .i64 1)) (.const (.int .i64 1)) 75 (by rfl) w.heap.size 137 i1 (.agg #[.int .i64 0, .int .i64 0, .int .i64 0, .int .i64 0, .int .i64 0, .int .i64 0, .int .i64 0, .int .i64 0, .int .i64 0]) 9 Try.underlying75 hi1 hz01 hz11 .i64 .i64 1 1 1 (by rfl) (by rfl) rfl rfl (by rw [hz21]; omega) (by unfold maxLen; omega) (by first | exact bel.size | (have h9 := bel.size; simp; omega)) ?_
        intro wH oH gH
        have own := own.kept gH (Or.inr (by simp [Value.ownBlock]))
        have tw := two_grown tw gH
        refine hK.out _ _ trivial (fun hHeld => ?_)
        clear hK KX
        try simp only [Act.put]
        try simp only [List.setIfInBounds_toArray]
        have bel : Below w.heap.size w wH := bel.grown gH (by first | exact bel.size | (have h9 := bel.size; simp; omega)) (fun k h => by cases h)
        refine wpAnyH_take (i := 4) (oi := { dst := some 10, op := Op.build 139 #[(0, .tmp 8), (1, .tmp 9)], type := _, pos := _, after := _, guard := none }) (v := .agg #[.slice (some ⟨w.heap.size + 1, 0, none⟩) K K, .slice (some ⟨(wM).heap.size, 0, none⟩) 1 1]) rfl (by kernel_rfl) (by kernel_rfl) (by kernel_rfl) (fun _ _ _ h => h) (Or.inl ⟨by rfl, by intro w' hSw; go_simp⟩) (by assumption) ?_
        try simp only [Act.put]
        try simp only [List.setIfInBounds_toArray]
        have t0 := tw.c0
        have t1 := tw.c1
        have u0 := tw.f0
        have u1 := tw.f1
        refine wpAnyH_ready (rs := [6]) (by kernel_rfl) (by simp) ?_
        refine AllReadyH.cons rfl (fun KX hK => ?_) AllReadyH.nil
        go_simp
        refine hK.out _ _ trivial (fun hHeld => ?_)
        clear hK KX
        refine wpAnyH_done (by kernel_rfl) ?_ _
        exact CONT _ (w.heap.size) (w.heap.size + 1) ((wM).heap.size) (hid ((tw.set0 _).set1 _)) (hid (own_setx' (own_setx' own ⟨w.heap.size, 0, none⟩ _ (fun e => hne (Option.some.inj e).symm)) ⟨w.heap.size, 1, none⟩ _ (fun e => hne (Option.some.inj e).symm))) (hid ((bel.setCell (p := ⟨w.heap.size, 0, none⟩) hSl _).setCell (p := ⟨w.heap.size, 1, none⟩) hSl _)) hSl
    · refine step_make_full _ (by rfl) (.const (.int .i64 1)) (.const (.int .i64 1)) 75 (by rfl) w.heap.size 137 i1 (.agg #[.int .i64 0, .int .i64 0, .int .i64 0, .int .i64 0, .int .i64 0, .int .i64 0, .int .i64 0, .int .i64 0, .int .i64 0]) 9 Try.underlying75 hi1 hz01 hz11 .i64 .i64 1 1 1 (by rfl) (by rfl) rfl rfl (by rw [hz21]; omega) (by unfold maxLen; omega) (by first | exact bel.size | (have h9 := bel.size; simp; omega)) ?_
      intro wH oH gH
      have tw := two_grown tw gH
      refine hK.out _ _ trivial (fun hHeld => ?_)
      clear hK KX
      try simp only [Act.put]
      try simp only [List.setIfInBounds_toArray]
      have bel : Below w.heap.size w wH := bel.grown gH (by first | exact bel.size | (have h9 := bel.size; simp; omega)) (fun k h => by cases h)
      refine wpAnyH_ready (rs := [2]) (by kernel_rfl) (by simp) ?_
      refine AllReadyH.cons rfl (fun KX hK => ?_) AllReadyH.nil
      · refine step_make_full _ (by rfl) (.tmp 7) (.tmp 7) 22 (by rfl) w.heap.size 3 i0 (.int .i64 0) 1 Try.underlying22 hi hz0 hz1 .i64 .i64 K K K (by rfl) (by rfl) rfl rfl (by rw [hz2]; omega) (by unfold maxLen; omega) (by first | exact bel.size | (have h9 := bel.size; simp; omega)) ?_
        intro wM own gM
        have hne : w.heap.size ≠ (wH).heap.size := fun e => Nat.lt_irrefl _ (Nat.lt_of_lt_of_eq tw.lt e.symm)
        have tw := two_grown tw gM
        refine hK.out _ _ trivial (fun hHeld => ?_)
        clear hK KX
        try simp only [Act.put]
        try simp only [List.setIfInBounds_toArray]
        have bel : Below w.heap.size w wM := bel.grown gM (by first | exact bel.size | (have h9 := bel.size; simp; omega)) (fun k h => by cases h)
        refine wpAnyH_take (i := 4) (oi := { dst := some 10, op := Op.build 139 #[(0, .tmp 8), (1, .tmp 9)], type := _, pos := _, after := _, guard := none }) (v := .agg #[.slice (some ⟨(wH).heap.size, 0, none⟩) K K, .slice (some ⟨w.heap.size + 1, 0, none⟩) 1 1]) rfl (by kernel_rfl) (by kernel_rfl) (by kernel_rfl) (fun _ _ _ h => h) (Or.inl ⟨by rfl, by intro w' hSw; go_simp⟩) (by assumption) ?_
        try simp only [Act.put]
        try simp only [List.setIfInBounds_toArray]
        have t0 := tw.c0
        have t1 := tw.c1
        have u0 := tw.f0
        have u1 := tw.f1
        refine wpAnyH_ready (rs := [6]) (by kernel_rfl) (by simp) ?_
        refine AllReadyH.cons rfl (fun KX hK => ?_) AllReadyH.nil
        go_simp
        refine hK.out _ _ trivial (fun hHeld => ?_)
        clear hK KX
        refine wpAnyH_done (by kernel_rfl) ?_ _
        exact CONT _ (w.heap.size) ((wH).heap.size) (w.heap.size + 1) (hid ((tw.set0 _).set1 _)) (hid (own_setx' (own_setx' own ⟨w.heap.size, 0, none⟩ _ (fun e => hne (Option.some.inj e).symm)) ⟨w.heap.size, 1, none⟩ _ (fun e => hne (Option.some.inj e).symm))) (hid ((bel.setCell (p := ⟨w.heap.size, 0, none⟩) hSl _).setCell (p := ⟨w.heap.size, 1, none⟩) hSl _)) hSl

end Go.Proofs.Ytjagijohfkffiab
