import Derived.Test.YtjagijohfkffiabCHEM36
import Derived.Test.YtjagijohfkffiabCHEM39

/- The walk of the reference's endless. -/
namespace Go.Proofs.Ytjagijohfkffiab
open Go.RowKit
set_option linter.unusedVariables false

/-- What is marked: what gets to one of the good places below i. -/
structure EnP (N : Nat) (to : Nat → List Nat) (good out : Nat → Bool) (i : Nat) : Prop where
  p1 : ∀ x, out x = true → ∃ c, c < i ∧ good c = true ∧ reach (Ed N to) x c
  p2 : ∀ x c, c < i → good c = true → reach (Ed N to) x c → out x = true

theorem en_start (N : Nat) (to : Nat → List Nat) (good : Nat → Bool) : EnP N to good (fun _ => false) 0 := ⟨fun x h => (by cases h), fun x c h => (by omega)⟩
theorem en_skip {N i : Nat} {to : Nat → List Nat} {good out : Nat → Bool} (h : EnP N to good out i) (hs : good i = false ∨ out i = true) : EnP N to good out (i + 1) := by
  refine ⟨fun x hx => ?_, fun x c hc hg hr => ?_⟩
  · obtain ⟨c, h1, h2⟩ := h.p1 x hx
    exact ⟨c, by omega, h2⟩
  · by_cases e : c = i
    · subst e
      rcases hs with hs | hs
      · rw [hs] at hg; cases hg
      · obtain ⟨d, hd, hgd, hrd⟩ := h.p1 c hs
        exact h.p2 x d hd hgd (reach_trans hr hrd)
    · exact h.p2 x c (by omega) hg hr
def otF (out l : Nat → Bool) (x : Nat) : Nat → Bool := fun i => if i < x then out i || l i else out i
theorem ot_zero (out l : Nat → Bool) : otF out l 0 = out := by funext i; simp [otF]
theorem ot_here (out l : Nat → Bool) (x : Nat) : otF out l x x = out x := by simp [otF]
theorem ot_step (out l : Nat → Bool) (x : Nat) : upd (otF out l x) x (out x || l x) = otF out l (x + 1) := by
  funext i
  unfold upd otF
  by_cases e : i = x
  · subst e; rw [if_pos rfl, if_pos (by omega)]
  · rw [if_neg e]
    by_cases e2 : i < x
    · rw [if_pos e2, if_pos (by omega)]
    · rw [if_neg e2, if_neg (by omega)]
theorem reach_from_lt {N : Nat} {to : Nat → List Nat} {a b : Nat} (h : reach (Ed N to) a b) : a < N := by
  obtain ⟨L, c, h1, _⟩ := h
  exact h1.1
theorem en_add {N i : Nat} {to : Nat → List Nat} {good out l : Nat → Bool} (h : EnP N to good out i) (hg : good i = true) (hl : ∀ x, l x = true ↔ reach (Ed N to) x i) : EnP N to good (otF out l N) (i + 1) := by
  refine ⟨fun x hx => ?_, fun x c hc hgc hr => ?_⟩
  · have key : out x = true ∨ l x = true := by
      unfold otF at hx
      by_cases e : x < N
      · rw [if_pos e, Bool.or_eq_true] at hx; exact hx
      · rw [if_neg e] at hx; exact Or.inl hx
    rcases key with k | k
    · obtain ⟨c, h1, h2⟩ := h.p1 x k
      exact ⟨c, by omega, h2⟩
    · exact ⟨i, by omega, hg, (hl x).1 k⟩
  · unfold otF
    rw [if_pos (reach_from_lt hr), Bool.or_eq_true]
    by_cases e : c = i
    · subst e; exact Or.inr ((hl x).2 hr)
    · exact Or.inl (h.p2 x c (by omega) hgc hr)
theorem en_end {N K : Nat} {to : Nat → List Nat} {kp : Nat → Nat → Bool} {good out : Nat → Bool} (h : EnP N to good out N) (hg : ∀ i, i < N → (good i = true ↔ GN N to K kp i)) (x : Nat) : out x = true ↔ ∃ c, c < N ∧ reach (Ed N to) x c ∧ GN N to K kp c := by
  constructor
  · intro hx
    obtain ⟨c, h1, h2, h3⟩ := h.p1 x hx
    exact ⟨c, h1, h3, (hg c h1).1 h2⟩
  · rintro ⟨c, h1, h2, h3⟩
    exact h.p2 x c h1 ((hg c h1).2 h3) h2

set_option maxHeartbeats 8000000 in
set_option maxRecDepth 100000 in
theorem endless_net (HT : TurnedC) (P N K : Nat) (to : Nat → List Nat) (kp : Nat → Nat → Bool) (w : World) (hn : NetM w P N to K kp) (hN0 : 0 < N) (hto : ∀ a, a < N → ∀ b ∈ to a, b < N) (hlen : ∀ a, a < N → (to a).length ≤ 4398046511104) (hcnt : ∀ a, a < N → ∀ j, (to a).count j ≤ 8) (hN : N ≤ 274877906944) (hK : K ≤ 65536) :
    Calls Try.prog 52 #[.pointer (some ⟨P, 0, none⟩)] w fun e w' => ∃ g out, e = .returned (.slice (some ⟨g, 0, none⟩) N N) ∧ w.heap.size ≤ g ∧ BO w' w.heap.size g N out ∧ (∀ i, out i = true ↔ ∃ c, c < N ∧ reach (Ed N to) i c ∧ GN N to K kp c) ∧ Below w.heap.size w w' := by
  have RN := hid (rings_net HT P N K to kp w hn hN0 hto hlen hcnt hN hK)
  have HNM := hid hn
  obtain ⟨i0, hi, hz0, hz1, hz2⟩ := info_parts Try.infoBool
  have HTO := hid hto
  have HLE := hid hlen
  have HCN := hid hcnt
  have HTT := hid HT
  clear hn hto hlen hcnt HT
  go_enter Try.func52, Try.ntmps52
  go_wp2_with fail
  refine RN.out.mono ?_
  rintro e w1 ⟨gg, good, rfl, hgg, OG, hgood, hb1⟩
  have HOG := hid OG
  have HGD := hid hgood
  have HB1 := hid hb1
  have hsz1 := hb1.size
  have hlg := OG.blk.2
  clear OG hgood hb1 RN
  go_wp2_with (at_make; go_must (refine wpList_make_full _ rfl (.tmp 12) (.tmp 12) 104 rfl w.heap.size 4 i0 (.bool false) 1 Try.underlying104 hi hz0 hz1 .i64 .i64 N N N rfl rfl rfl rfl ?m2 ?m3 hsz1 ?_))
  case m2 => rw [hz2]; omega
  case m3 => unfold maxLen; omega
  intro w2 own2 grow2
  have eo : (madeCells #[Value.bool false] N).toList = List.replicate N (.bool false) := toList_madeCells_one _ _
  rw [eo, ← outTo_zero (fun _ => false), show outTo (fun _ => false) N 0 = outTo (fun _ => false) N N by simp [outTo]] at own2
  have OO : Hid (BO w2 w.heap.size w1.heap.size N (fun _ => false)) := hid own2
  have OG2 := hid (HOG.out.grown grow2)
  have hl1 := OO.out.blk.2
  have hb2 := HB1.out.grown grow2 hsz1 (fun k h => by cases h)
  have hsz2 := hb2.size
  have HB2 := hid hb2
  clear own2 grow2 eo HOG HB1 hb2
  generalize hg1 : w1.heap.size = g1 at *
  go_wp2_with fail
  refine (HTT.out P N K to kp w2 (HNM.out.below HB2.out) hN0 HTO.out HLE.out HCN.out hN).mono ?_
  rintro e w3 ⟨P2, tl, rfl, ST, htl, hll, hb3⟩
  have HST := hid ST
  have HTL := hid htl
  have HLL := hid hll
  have OG3 := hid (OG2.out.keeps hb3)
  have OO3 := hid (OO.out.keeps hb3)
  have hsz3 := hb3.size
  have HB3 := hid (HB2.out.trans (hb3.mono hsz2))
  have ng1 : gg ≠ g1 := by omega
  have hbl := HB3.out.size
  clear OG2 OO HB2 hb3 ST htl hll
  go_wp2_with fail
  go_loopw [6] (fun i wq => ∃ (c : Nat) (out : Nat → Bool), c ≤ N ∧ i = .int .i64 c ∧ Hid (EnP N to good out c) ∧ Hid (BO wq w.heap.size gg N good) ∧ Hid (BO wq w.heap.size g1 N out) ∧ Hid (Stays w2.heap.size w3 wq) ∧ Below w.heap.size w wq) (fun i _ => N - (intOf i).toNat)
  case atStart => exact ⟨0, _, Nat.zero_le _, rfl, hid (en_start _ _ _), OG3, OO3, hid (Stays.refl _ _), HB3.out⟩
  case round =>
    obtain ⟨c, out, hc, rfl, HE, HG, HO, HS, hb⟩ := hrel
    rename World => W0
    by_cases hlc : c < N
    · have d1 := HG.out.get hlc
      have d2 := HO.out.get hlc
      have HSK := hid (fun h => en_skip HE.out (i := c) h)
      have HAD := hid (fun h l => en_add HE.out (i := c) h (l := l))
      generalize good c = gv at *
      generalize out c = ov at *
      cases gv with
      | false =>
        have HE2 := hid (HSK.out (Or.inl rfl))
        clear HSK HAD
        go_wp2_with fail
        go_roundw
        case rel => exact ⟨c + 1, out, by omega, by go_num, HE2, HG, HO, HS, hb⟩
        case measure => simp [intOf]; omega
      | true =>
        cases ov with
        | true =>
          have HE2 := hid (HSK.out (Or.inr rfl))
          clear HSK HAD
          go_wp2_with fail
          go_roundw
          case rel => exact ⟨c + 1, out, by omega, by go_num, HE2, HG, HO, HS, hb⟩
          case measure => simp [intOf]; omega
        | false =>
          have HA2 := hid (HAD.out rfl)
          clear HSK HAD
          have hsq := hb.size
          have FB := hid (from_net P2 N 0 c tl kp W0 (HST.out W0 HS.out) (fun x hx y hy => ((HTL.out x y).1 hy).1) (fun x hx => by have := HLL.out x; omega) hlc (by omega))
          go_wp2_with fail
          refine FB.out.mono ?_
          rintro e w6 ⟨gb, l, rfl, hgb, OB, hbR, hb6⟩
          have HL0 : Hid (BO w6 w.heap.size gb N l) := hid (BO.base (show BO w6 W0.heap.size gb N l from OB) hsq)
          have HBR : Hid (∀ x, l x = true ↔ reach (Ed N to) x c) := hid (fun x => (hbR x).trans (reach_back HTO.out HTL.out))
          have HE2 := hid (HA2.out l HBR.out)
          have F1 := hid (HG.out.keeps hb6)
          have F2 : Hid (BO w6 w.heap.size g1 N (otF out l 0)) := hid (by rw [ot_zero]; exact HO.out.keeps hb6)
          have F4 := hid (HS.out.below hb6)
          have hso := HO.out.blk.2
          have HB8 := hid (hb.trans (hb6.mono hsq))
          clear FB OB hbR hb6 HA2 HG HO HS d1 d2 hb
          go_wp2_with fail
          go_loopw [8] (fun i wq => ∃ (x : Nat), x ≤ N ∧ i = .int .i64 x ∧ Hid (BO wq w.heap.size gg N good) ∧ Hid (BO wq w.heap.size g1 N (otF out l x)) ∧ Hid (BO wq w.heap.size gb N l) ∧ Hid (Stays w2.heap.size w3 wq) ∧ Below w.heap.size w wq) (fun i _ => N - (intOf i).toNat)
          case atStart => exact ⟨0, Nat.zero_le _, rfl, F1, F2, HL0, F4, HB8.out⟩
          case round =>
            obtain ⟨x, hx, rfl, G1, G2, G3, G4, hb9⟩ := hrel
            by_cases hlx : x < N
            · have s1 := G2.out.fz x
              have s2 := G2.out.get hlx
              have s3 := G3.out.get hlx
              have m1 : gb ≠ g1 := by omega
              rw [ot_here] at s2
              have A2 := G2.out.set x (out x || l x)
              rw [ot_step] at A2
              have C2 := hid A2
              have C1 := hid (G1.out.other G2.out ng1 x (.bool (out x || l x)))
              have C3 := hid (G3.out.other G2.out m1 x (.bool (out x || l x)))
              have C4 := hid (G4.out.set (k := g1) (by omega) x (.bool (out x || l x)))
              have HBX := hid (hb9.setCell (p := ⟨g1, x, none⟩) (by show w.heap.size ≤ g1; omega) (.bool (out x || l x)))
              clear A2 G1 G2 G3 G4
              generalize out x = ov at *
              generalize l x = lv at *
              cases ov with
              | true =>
                go_wp2_with fail
                go_roundw
                case rel => exact ⟨x + 1, by omega, by go_num, C1, C2, C3, C4, HBX.out⟩
                case measure => simp [intOf]; omega
              | false =>
                rw [Bool.false_or] at C1 C2 C3 C4 HBX
                go_wp2_with fail
                go_roundw
                case rel => exact ⟨x + 1, by omega, by go_num, C1, C2, C3, C4, HBX.out⟩
                case measure => simp [intOf]; omega
            · obtain rfl : x = N := by omega
              go_wp2_with fail
              go_roundw
              case rel => exact ⟨c + 1, _, by omega, by go_num, HE2, G1, G2, G4, hb9⟩
              case measure => simp [intOf]; omega
    · obtain rfl : c = N := by omega
      have HEN := hid (en_end HE.out HGD.out)
      have hg1' : w.heap.size ≤ g1 := by omega
      go_wp2_with fail
      go_ret
      exact ⟨g1, out, rfl, hg1', HO.out, HEN.out, hb⟩

end Go.Proofs.Ytjagijohfkffiab

/- The walk of the reference's net. -/
namespace Go.Proofs.Ytjagijohfkffiab
open Go.RowKit
set_option linter.unusedVariables false

def mOf (vs : List Nat) (i : Nat) : Nat → Bool := bitF (atN vs i)
def toK (ns : List Nd) (vs : List Nat) (i k : Nat) : List Nat := (List.range k).filter fun q => folB ns (mOf vs i) (mOf vs q)
def toS (ns : List Nd) (vs : List Nat) (i : Nat) : List Nat := toK ns vs i vs.length
def kpS (ns : List Nd) (vs : List Nat) (k i : Nat) : Bool := keptN (ndAt ns k) k (mOf vs i)

theorem toK_yes {ns : List Nd} {vs : List Nat} {i k : Nat} (h : folB ns (mOf vs i) (mOf vs k) = true) : toK ns vs i (k + 1) = toK ns vs i k ++ [k] := by simp [toK, List.range_succ, List.filter_append, h]
theorem toK_no {ns : List Nd} {vs : List Nat} {i k : Nat} (h : folB ns (mOf vs i) (mOf vs k) = false) : toK ns vs i (k + 1) = toK ns vs i k := by simp [toK, List.range_succ, List.filter_append, h]
theorem toK_len (ns : List Nd) (vs : List Nat) (i k : Nat) : (toK ns vs i k).length ≤ k := by
  have := List.length_filter_le (fun q => folB ns (mOf vs i) (mOf vs q)) (List.range k)
  simpa [toK] using this

theorem nInts_len (l : List Nat) : (nInts l).length = l.length := by simp [nInts]
theorem rws_nrs {w : World} {B N : Nat} {v : Value} {V : Nat → Value} {to : Nat → List Nat} (h : Rws w B 22 3 v N V (fun q => nInts (to q))) : NRs w v N to := by
  rcases h.out.2 with ⟨rfl, h0⟩ | ⟨g, cap, cur, rfl, hb, hh, hc, hm, _⟩
  · exact ⟨none, 0, by rw [h0], by omega, fun h => by omega⟩
  · refine ⟨_, cap, rfl, hc, fun _ => ⟨g, rfl, heap_lt hh, fun i hi => ⟨V i, ?_, ?_⟩⟩⟩
    · rw [h.out.cellAt i (by omega)]
      simp [List.getElem?_map, List.getElem?_range hi]
    · have := h.row i hi
      rw [nInts_len] at this
      exact own_nr this
theorem rws_brs {w : World} {B K N : Nat} {v : Value} {V : Nat → Value} {kp : Nat → Nat → Bool} (h : Rws w B 104 4 v K V (fun q => outTo (kp q) N N)) (hV : ∀ i, i < K → ∃ b, V i = .slice (some ⟨b, 0, none⟩) N N) : BRs w v K N kp := by
  rcases h.out.2 with ⟨rfl, h0⟩ | ⟨g, cap, cur, rfl, hb, hh, hc, hm, _⟩
  · exact ⟨none, 0, by rw [h0], by omega, fun h => by omega⟩
  · refine ⟨_, cap, rfl, hc, fun _ => ⟨g, rfl, heap_lt hh, fun i hi => ?_⟩⟩
    obtain ⟨b, hb⟩ := hV i hi
    have hr := h.row i hi
    have hl : (outTo (kp i) N N).length = N := by simp [outTo]
    simp only [hl, hb] at hr
    refine ⟨b, ?_, ?_, fun q hq => ?_⟩
    · rw [h.out.cellAt i (by omega)]
      simp [List.getElem?_map, List.getElem?_range hi, hb]
    · rcases hr.2 with ⟨e, h0⟩ | ⟨g', cap', cur', e, _, hg', _⟩
      · cases e
      · cases e
        exact heap_lt hg'
    · rw [hr.cellAt q (by omega)]
      exact outTo_get (kp i) N q hq

set_option maxHeartbeats 8000000 in
set_option maxRecDepth 100000 in
theorem net_any (F gp cap Bs : Nat) (ns : List Nd) (bs vs : List Nat) (v : Value) (w : World) (hf : FR w F gp cap ns bs) (hg : Good ns) (hs : SetL w Bs v ns.length vs) (hN : vs.length ≤ 256) :
    Calls Try.prog 93 #[.pointer (some ⟨F, 0, none⟩), v] w fun e w' => e = .returned (.pointer (some ⟨w.heap.size, 0, none⟩)) ∧ NetM w' w.heap.size vs.length (toS ns vs) ns.length (kpS ns vs) ∧ Below w.heap.size w w' := by
  have hle := hg.le
  have hpos := hg.pos
  have k0 := hf.c0
  have kc := hf.hcap
  have hF := hf.lt0
  obtain ⟨bb, so, sr⟩ := hs
  obtain ⟨ao, vcap, rfl⟩ := own_slice so
  have hvc : vs.length ≤ vcap := by
    rcases so.2 with ⟨e, h0⟩ | ⟨g, cp, cur, e, _, _, hc, _⟩
    · omega
    · cases e; exact hc
  have SC : Hid (∀ i, i < vs.length → ∃ gs, ao = some ⟨gs, 0, none⟩ ∧ gs < w.heap.size ∧ w.cell? ⟨gs, i, none⟩ = some (.slice (some ⟨bb i, 0, none⟩) ns.length ns.length)) := hid (fun i hi => by
    obtain ⟨gs, e, _, hgs, _⟩ := own_at' so (by omega)
    subst e
    refine ⟨gs, rfl, hgs, ?_⟩
    rw [so.cellAt i (by omega)]
    simp [List.getElem?_map, List.getElem?_range hi, setVal])
  have SR : Hid (∀ i, i < vs.length → Rb w (bb i) ns.length (mOf vs i)) := hid (fun i hi => set_rb hpos (sr i hi))
  obtain ⟨i0, hi, hz0, hz1, hz2⟩ := info_parts Try.infoIntE
  obtain ⟨i1, hi1, hz01, hz11, hz21⟩ := info_parts Try.infoIntL
  obtain ⟨i2, hi2, hz02, hz12, hz22⟩ := info_parts Try.infoBool
  obtain ⟨i3, hi3, hz03, hz13, hz23⟩ := info_parts Try.infoBoolL
  have FO := hid (fun (W : World) (i k : Nat) (h1 : Below w.heap.size w W) (hi : i < vs.length) (hk : k < vs.length) => follows_set F gp cap (bb i) (bb k) ns.length ns.length ns bs (mOf vs i) (mOf vs k) W (hf.below h1) ((SR.out i hi).below h1) ((SR.out k hk).below h1) hg (Nat.le_refl _) (Nat.le_refl _))
  have KE := hid (fun (W : World) (i k : Nat) (h1 : Below w.heap.size w W) (hi : i < vs.length) (hk : k < ns.length) => kept_set F gp cap (bb i) ns.length ns bs (mOf vs i) W k hk (hf.below h1) ((SR.out i hi).below h1) hg (Nat.le_refl _))
  clear so sr SR hf hg
  have HTS : Hid (∀ i, toS ns vs i = toK ns vs i vs.length) := hid (fun i => rfl)
  generalize vs.length = N at *
  generalize ns.length = n at *
  go_enter Try.func93, Try.ntmps93
  go_wp2_with fail
  go_loopw [6] (fun i wr => ∃ (j : Nat) (v1 : Value) (V : Nat → Value), j ≤ N ∧ i = .int .i64 j ∧ Below w.heap.size w wr ∧ Two wr w.heap.size v1 (.slice none 0 0) ∧ Hid (Rws wr (w.heap.size + 1) 22 3 v1 j V (fun q => nInts (toS ns vs q)))) (fun i _ => N - (intOf i).toNat)
  case atStart => exact ⟨0, _, fun _ => .bool false, Nat.zero_le _, rfl, (Below.refl _ _).alloc (Nat.le_refl _) _, two_new w _ _ _, hid (rws_nil _ _ _ _ _ _)⟩
  case round =>
    obtain ⟨j, v1, V, hj, rfl, hb, q1, HL⟩ := hrel
    rename World => W0
    have hM := q1.lt
    by_cases hlt : j < N
    · have HQ1 := hid q1
      clear q1
      go_wp2_with fail
      go_loopw [8, 7] (fun i s wq => ∃ (k : Nat), k ≤ N ∧ i = .int .i64 k ∧ Below W0.heap.size W0 wq ∧ Hid (wq.ownsRow W0.heap.size 3 1 s (toK ns vs j k).length (nInts (toK ns vs j k)))) (fun i _ _ => N - (intOf i).toNat)
      case atStart => exact ⟨0, Nat.zero_le _, rfl, Below.refl _ _, hid (by simpa [toK, nInts] using World.ownsRow_nil _ _ _ _)⟩
      case round =>
        obtain ⟨k, hk, rfl, hbq, HO⟩ := hrel
        have hsz := hbq.size
        have hbw : Below w.heap.size w wr := hb.trans (hbq.mono hb.size)
        by_cases hlk : k < N
        · obtain ⟨gs, e, hgs, ci⟩ := SC.out j hlt
          subst e
          obtain ⟨gs', e, _, ck⟩ := SC.out k hlk
          cases e
          have ci' := (hbw.cell (p := ⟨gs, j, none⟩) hgs).trans ci
          have ck' := (hbw.cell (p := ⟨gs, k, none⟩) hgs).trans ck
          have C := fun m => FO.out (wr.drewN m) j k (below_drewN hbw m) hlt hlk
          have HYE := hid (toK_yes (ns := ns) (vs := vs) (i := j) (k := k))
          have HNO := hid (toK_no (ns := ns) (vs := vs) (i := j) (k := k))
          have htl := toK_len ns vs j k
          generalize folB ns (mOf vs j) (mOf vs k) = fv at *
          go_wp2_with fail
          go_quiet ((go_at_call 121; exact Calls.quiet_of (C _)))
          cases fv
          · go_wp2_with fail
            go_roundw
            case rel => exact ⟨k + 1, by omega, by go_num, below_drewN hbq _, by rw [HNO.out rfl]; exact hid (own_keeps HO.out (below_drewN (Below.refl _ _) _))⟩
            case measure => simp [intOf]; omega
          · have own := own_keeps HO.out (below_drewN (Below.refl wr.heap.size wr) nq)
            have hbd := below_drewN hbq nq
            have hsd := hbd.size
            have HY := hid (HYE.out rfl)
            have HBD := hid hbd
            clear HO hbq hbd C HYE HNO
            generalize wr.drewN nq = W2 at *
            generalize toK ns vs j k = tl at *
            go_wp2_with (at_builtin; go_must (refine wpList_append_own _ rfl (.tmp 38) (.tmp 40) 22 rfl W0.heap.size 3 i0 (.int .i64 0) 1 8 Try.underlying22 hi hz0 hz1 hz2 rfl (by decide) _ _ _ rfl (own.alloc _) ⟨W2.heap.size, 0, none⟩ 1 1 [.int .i64 k] rfl rfl ?c1 ?c2 ?c3 ?c4 ?c5 ?_))
            case c1 => intro q u hq; rw [add_off, Nat.zero_add, World.cell?_alloc_new]; simpa using hq
            case c2 => intro u hu; simp at hu; subst hu; rfl
            case c3 => unfold maxLen; omega
            case c4 => omega
            case c5 => simp; omega
            intro v' w1 hown hgrow _
            have B1 := hid ((HBD.out.alloc hsd _).grown hgrow (by simp; omega) (fun k h => (own.lt k h).1))
            rw [show nInts tl ++ [.int .i64 (k : Nat)] = nInts (tl ++ [k]) by simp [nInts], show tl.length + 1 = (tl ++ [k]).length by simp, ← HY.out] at hown
            have O1 := hid hown
            clear hown hgrow own
            go_wp2_with fail
            go_roundw
            case rel => exact ⟨k + 1, by omega, by go_num, B1.out, O1⟩
            case measure => simp [intOf]; omega
        · obtain rfl : k = N := by omega
          have O6 := HO.out
          rw [← HTS.out] at O6
          have htl : (toS ns vs j).length ≤ k := by rw [HTS.out]; exact toK_len ns vs j k
          have L := HL.out.keeps hbq
          have t1 := HQ1.out.below hbq hM
          have k1 := t1.c0
          have BB := hid hbw
          obtain ⟨ao6, cap6, hv6⟩ := own_slice O6
          subst hv6
          have h6 := hid (own_mono O6 (B' := w.heap.size + 1) (by omega))
          have HLL := hid L
          have T1 := hid t1
          have l1 := L.out
          have hwsz := hbw.size
          clear O6 HO L t1 hbq HL HQ1 hbw
          generalize htl2 : (toS ns vs j).length = tlen at *
          have HTL : Hid ((nInts (toS ns vs j)).length = tlen) := hid (by rw [nInts_len]; exact htl2)
          clear htl2
          go_wp2_with (at_builtin; go_must (refine wpList_append_lies _ rfl (.tmp 46) (.tmp 48) 33 rfl (w.heap.size + 1) 22 i1 (.slice none 0 0) 1 24 Try.underlying33 hi1 hz01 hz11 hz21 rfl (by decide) _ _ _ rfl (l1.alloc _) ⟨wr.heap.size, 0, none⟩ 1 1 [.slice ao6 tlen cap6] rfl rfl ?d1 ?d2 (by decide) ?d3 ?d4 ?d5 _ rfl ?_))
          case d1 => intro q u hq; rw [add_off, Nat.zero_add, World.cell?_alloc_new]; simpa using hq
          case d2 => intro u hu; simp at hu; subst hu; rfl
          case d3 => unfold maxLen; omega
          case d4 => omega
          case d5 => simp; omega
          intro g2 cc2 w2 hown hgrow hat hlt2
          have bw2 : Below (w.heap.size + 1) wr w2 := ((Below.refl _ _).alloc (by omega) _).grown hgrow (by simp; omega) (fun k h => (l1.lt k h).1)
          have L2 := rws_push (HLL.out.keeps ((Below.refl _ _).alloc (Nat.le_refl _) (.cells #[.slice ao6 tlen cap6] 22))) (by show World.ownsRow _ _ _ _ _ (nInts (toS ns vs j)).length _; rw [HTL.out]; exact h6.out.alloc _) (by decide) hgrow hown
          have s1 := T1.out.below bw2 (by omega)
          have L3 := hid (L2.set (k := w.heap.size) (by omega) 0 (.slice (some ⟨g2, 0, none⟩) (j + 1) cc2))
          have V1 := hid (s1.set0 (.slice (some ⟨g2, 0, none⟩) (j + 1) cc2))
          have e0 := s1.c0
          have e1 := s1.f0
          have BB2 := hid ((BB.out.trans (bw2.mono (by omega))).setCell (p := ⟨w.heap.size, 0, none⟩) (Nat.le_refl _) (.slice (some ⟨g2, 0, none⟩) (j + 1) cc2))
          clear hown hgrow hat L2 s1 bw2 l1 k1
          go_wp2_with fail
          go_roundw
          case rel => exact ⟨j + 1, _, _, by omega, by go_num, BB2.out, V1.out, L3⟩
          case measure => simp [intOf]; omega
    · obtain rfl : j = N := by omega
      clear FO
      go_wp2_with fail
      go_loopw [10] (fun i wr => ∃ (p : Nat) (v2 : Value) (V2 : Nat → Value), p ≤ n ∧ i = .int .i64 p ∧ Below w.heap.size w wr ∧ Two wr w.heap.size v1 v2 ∧ Hid (Rws wr (w.heap.size + 1) 22 3 v1 j V (fun q => nInts (toS ns vs q))) ∧
          Hid (Rws wr (w.heap.size + 1) 104 4 v2 p V2 (fun q => outTo (kpS ns vs q) j j)) ∧ Hid (∀ i, i < p → ∃ b, V2 i = .slice (some ⟨b, 0, none⟩) j j)) (fun i _ => n - (intOf i).toNat)
      case atStart => exact ⟨0, _, fun _ => .bool false, Nat.zero_le _, rfl, hb, q1, HL, hid (rws_nil _ _ _ _ _ _), hid (fun i h => by omega)⟩
      case round =>
        obtain ⟨p, v2, V2, hp, rfl, hbp, q2, HL1, HL2, HV2⟩ := hrel
        rename World => W3
        have hM3 := q2.lt
        have hsz3 := hbp.size
        have k03 := (hbp.cell (p := ⟨F, 0, none⟩) hF).trans k0
        by_cases hltp : p < n
        · have HQ2 := hid q2
          clear q2
          go_wp2_with (at_make; go_must (refine wpList_make_full _ rfl (.tmp 62) (.tmp 62) 104 rfl (w.heap.size + 1) 4 i2 (.bool false) 1 Try.underlying104 hi2 hz02 hz12 .i64 .i64 j j j rfl rfl rfl rfl ?m2 ?m3 hM3 ?_))
          case m2 => rw [hz22]; omega
          case m3 => unfold maxLen; omega
          intro w1 own1 grow1
          have eo : (madeCells #[Value.bool false] j).toList = List.replicate j (.bool false) := toList_madeCells_one _ _
          rw [eo, ← outTo_zero (kpS ns vs p)] at own1
          have hb1 : Below W3.heap.size W3 w1 := (Below.refl _ _).grown grow1 (Nat.le_refl _) (fun k h => by cases h)
          have OS := hid own1
          have HB1 := hid hb1
          clear own1 grow1 eo hb1
          go_wp2_with fail
          go_loopw [12] (fun i wq => ∃ q : Nat, q ≤ j ∧ i = .int .i64 q ∧ Hid (wq.ownsRow (w.heap.size + 1) 4 1 (.slice (some ⟨W3.heap.size, 0, none⟩) j j) j (outTo (kpS ns vs p) j q)) ∧ Below W3.heap.size W3 wq) (fun i _ => j - (intOf i).toNat)
          case atStart => exact ⟨0, Nat.zero_le _, rfl, OS, HB1.out⟩
          case round =>
            obtain ⟨q, hq, rfl, HO, hbq⟩ := hrel
            have hbw : Below w.heap.size w wr := hbp.trans (hbq.mono hsz3)
            by_cases hlq : q < j
            · have own := HO.out
              have f0 := own.frozenAt q
              have f1 : (wr.cell? ⟨W3.heap.size, q, none⟩).isSome = true := by
                rw [own.cellAt q (by omega)]
                simp [outTo, hlq]
              obtain ⟨qv, f2⟩ := Option.isSome_iff_exists.1 f1
              have hO := own.stored q (.bool (kpS ns vs p q))
              rw [outTo_set] at hO
              have HO2 := hid hO.1
              have HB2 := hid (hbq.setCell (p := ⟨W3.heap.size, q, none⟩) (Nat.le_refl _) (.bool (kpS ns vs p q)))
              obtain ⟨gs, e, hgs, cq⟩ := SC.out q hlq
              subst e
              have cq' := (hbw.cell (p := ⟨gs, q, none⟩) hgs).trans cq
              have C := KE.out wr q p hbw hlq hltp
              have HKP : Hid (kpS ns vs p q = keptN (ndAt ns p) p (mOf vs q)) := hid rfl
              clear hO f1 own HO hbw
              generalize keptN (ndAt ns p) p (mOf vs q) = kv at *
              go_wp2_with fail
              refine C.mono ?_
              rintro e w4 ⟨rfl, rfl⟩
              clear C
              go_wp2_with fail
              go_roundw
              case rel =>
                have o := HO2.out
                have g := HB2.out
                rw [HKP.out] at o g
                exact ⟨q + 1, by omega, by go_num, hid o, g⟩
              case measure => simp [intOf]; omega
            · obtain rfl : q = j := by omega
              have own := HO.out
              have L1 := HL1.out.keeps hbq
              have L2 := HL2.out.keeps hbq
              have t1 := HQ2.out.below hbq hM3
              have k1 := t1.c1
              have BB := hid hbw
              have HOW := hid own
              have HLL1 := hid L1
              have HLL2 := hid L2
              have T1 := hid t1
              have l2 := L2.out
              have hwsz := hbw.size
              have hqsz := hbq.size
              clear own HO L1 L2 t1 hbq HL1 HL2 HQ2 hbw OS HB1
              go_wp2_with (at_builtin; go_must (refine wpList_append_lies _ rfl (.tmp 84) (.tmp 86) 100 rfl (w.heap.size + 1) 104 i3 (.slice none 0 0) 1 24 Try.underlying100 hi3 hz03 hz13 hz23 rfl (by decide) _ _ _ rfl (l2.alloc _) ⟨wr.heap.size, 0, none⟩ 1 1 [.slice (some ⟨W3.heap.size, 0, none⟩) q q] rfl rfl ?d1 ?d2 (by decide) ?d3 ?d4 ?d5 _ rfl ?_))
              case d1 => intro z u hz; rw [add_off, Nat.zero_add, World.cell?_alloc_new]; simpa using hz
              case d2 => intro u hu; simp at hu; subst hu; rfl
              case d3 => unfold maxLen; omega
              case d4 => omega
              case d5 => simp; omega
              intro g2 cc2 w2 hown hgrow hat hlt2
              have bw2 : Below (w.heap.size + 1) wr w2 := ((Below.refl _ _).alloc (by omega) _).grown hgrow (by simp; omega) (fun k h => (l2.lt k h).1)
              have hll : (outTo (kpS ns vs p) q q).length = q := by simp [outTo]
              have A2 := HLL2.out.keeps ((Below.refl _ _).alloc (Nat.le_refl _) (.cells #[.slice (some ⟨W3.heap.size, 0, none⟩) q q] 104))
              have L3 := rws_push A2 (by show World.ownsRow _ _ _ _ _ (outTo (kpS ns vs p) q q).length _; rw [hll]; exact HOW.out.alloc _) (by decide) hgrow hown
              have L4 := (HLL1.out.keeps ((Below.refl _ _).alloc (Nat.le_refl _) (.cells #[.slice (some ⟨W3.heap.size, 0, none⟩) q q] 104))).grown A2.out hgrow (by decide) (by decide)
              have s1 := T1.out.below bw2 (by omega)
              have L5 := hid (L3.set (k := w.heap.size) (by omega) 1 (.slice (some ⟨g2, 0, none⟩) (p + 1) cc2))
              have L6 := hid (L4.set (k := w.heap.size) (by omega) 1 (.slice (some ⟨g2, 0, none⟩) (p + 1) cc2))
              have V1 := hid (s1.set1 (.slice (some ⟨g2, 0, none⟩) (p + 1) cc2))
              have e0 := s1.c1
              have e1 := s1.f1
              have BB2 := hid ((BB.out.trans (bw2.mono (by omega))).setCell (p := ⟨w.heap.size, 1, none⟩) (Nat.le_refl _) (.slice (some ⟨g2, 0, none⟩) (p + 1) cc2))
              clear hown hgrow hat L3 L4 A2 s1 bw2 l2 k1 hll
              go_wp2_with fail
              go_roundw
              case rel =>
                refine ⟨p + 1, _, _, by omega, by go_num, BB2.out, V1.out, L6, L5, hid (fun i hi => ?_)⟩
                by_cases e : i = p
                · subst e; exact ⟨W3.heap.size, by simp⟩
                · simp only [if_neg e]; exact HV2.out i (by omega)
              case measure => simp [intOf]; omega
        · obtain rfl : p = n := by omega
          have NM : Hid (NetM W3 w.heap.size j (toS ns vs) p (kpS ns vs)) := hid ⟨hM3, ⟨v1, q2.c0, rws_nrs HL1.out⟩, ⟨v2, q2.c1, (rws_brs HL2.out HV2.out).brc⟩⟩
          clear q2
          go_wp2_with fail
          go_ret
          exact ⟨rfl, NM.out, hbp⟩

end Go.Proofs.Ytjagijohfkffiab
