import Derived.Test.YtjagijohfkffiabCHEM20
import Derived.Test.YtjagijohfkffiabCHEM36
import Derived.Test.YtjagijohfkffiabCHEM37
import Derived.Test.YtjagijohfkffiabCHEM40
import Derived.Deep.RegionHeld3
import Derived.Deep.AppendLies

/- The reference's rows in memory; the walk of whole. -/
namespace Go.Proofs.Ytjagijohfkffiab
open Go.RowKit
set_option linter.unusedVariables false

structure RowsM (w : World) (R F gp cap : Nat) (ns : List Nd) (bs vs : List Nat) : Prop where
  lt : R < w.heap.size
  fr : FR w F gp cap ns bs
  c0 : w.cell? ⟨R, 0, none⟩ = some (.pointer (some ⟨F, 0, none⟩))
  c1 : ∃ v, w.cell? ⟨R, 1, none⟩ = some v ∧ BRs w v vs.length ns.length (mOf vs)
  c2 : ∃ v, w.cell? ⟨R, 2, none⟩ = some v ∧ NRs w v vs.length (toS ns vs)

theorem RowsM.below {w w' : World} {R F gp cap : Nat} {ns : List Nd} {bs vs : List Nat} (h : RowsM w R F gp cap ns bs vs) (hb : Below w.heap.size w w') : RowsM w' R F gp cap ns bs vs := by
  obtain ⟨v1, a1, b1⟩ := h.c1
  obtain ⟨v2, a2, b2⟩ := h.c2
  exact ⟨Nat.lt_of_lt_of_le h.lt hb.size, h.fr.below hb, (hb.cell (p := ⟨R, 0, none⟩) h.lt).trans h.c0, ⟨v1, (hb.cell (p := ⟨R, 1, none⟩) h.lt).trans a1, b1.below hb⟩, ⟨v2, (hb.cell (p := ⟨R, 2, none⟩) h.lt).trans a2, b2.below hb⟩⟩

set_option maxHeartbeats 4000000 in
set_option maxRecDepth 100000 in
theorem whole_own (R F gp cap : Nat) (ns : List Nd) (bs vs : List Nat) (hd : Bool) (w : World) (h : RowsM w R F gp cap ns bs vs) (hg : Good ns) (hM : vs.length ≤ 256) :
    Calls Try.prog 53 #[.pointer (some ⟨R, 0, none⟩), .bool hd] w fun e w' => ∃ g, e = .returned (.slice (some ⟨g, 0, none⟩) vs.length vs.length) ∧ Rb w' g vs.length (fun i => mOf vs i (ns.length - 1) == hd) ∧ w.heap.size ≤ g ∧ Below w.heap.size w w' ∧ w'.ownsRow w.heap.size 4 1 (.slice (some ⟨g, 0, none⟩) vs.length vs.length) vs.length (outTo (fun i => mOf vs i (ns.length - 1) == hd) vs.length vs.length) := by
  obtain ⟨v1, a1, ao, scap, rfl, hsc, hrow⟩ := h.c1
  have hR := h.lt
  have r0 := h.c0
  have f0 := h.fr.c0
  have hF := h.fr.lt0
  have hfc := h.fr.hcap
  have hle := hg.le
  have hpos := hg.pos
  obtain ⟨i0, hi, hz0, hz1, hz2⟩ := info_parts Try.infoBool
  have HROW := hid hrow
  clear hrow h hg
  generalize ns.length = n at *
  obtain ⟨n1, rfl⟩ : ∃ n1, n = n1 + 1 := ⟨n - 1, by omega⟩
  rw [show n1 + 1 - 1 = n1 by omega]
  have wr1 : IntKind.i64.wrap (((n1 + 1 : Nat) : Int) - 1) = (n1 : Int) := by rw [IntKind.wrap_i64]; omega
  generalize vs.length = M at *
  go_enter Try.func53, Try.ntmps53
  go_wp2_with (at_make; go_must (refine wpList_make_full _ rfl (.tmp 11) (.tmp 11) 104 rfl w.heap.size 4 i0 (.bool false) 1 Try.underlying104 hi hz0 hz1 .i64 .i64 M M M rfl rfl rfl rfl ?m2 ?m3 (Nat.le_refl _) ?_))
  case m2 => rw [hz2]; omega
  case m3 => unfold maxLen; omega
  intro w1 own1 grow1
  have eo : (madeCells #[Value.bool false] M).toList = List.replicate M (.bool false) := toList_madeCells_one _ _
  rw [eo, ← outTo_zero (fun i => mOf vs i n1 == hd)] at own1
  have hb1 : Below w.heap.size w w1 := (Below.refl _ _).grown grow1 (Nat.le_refl _) (fun k h => by cases h)
  have OS := hid own1
  have HB1 := hid hb1
  clear own1 grow1 eo hb1
  go_wp2_with fail
  go_loopw [6] (fun i wq => ∃ k : Nat, k ≤ M ∧ i = .int .i64 k ∧ Hid (wq.ownsRow w.heap.size 4 1 (.slice (some ⟨w.heap.size, 0, none⟩) M M) M (outTo (fun i => mOf vs i n1 == hd) M k)) ∧ Below w.heap.size w wq) (fun i _ => M - (intOf i).toNat)
  case atStart => exact ⟨0, Nat.zero_le _, rfl, OS, HB1.out⟩
  case round =>
    obtain ⟨k, hk, rfl, HO, hbq⟩ := hrel
    have a1' := (hbq.cell (p := ⟨R, 1, none⟩) hR).trans a1
    by_cases hlk : k < M
    · obtain ⟨gs, e, hgs, hsets⟩ := HROW.out (by omega)
      subst e
      obtain ⟨b, cb, hrb⟩ := hsets k hlk
      have cb' := (hbq.cell (p := ⟨gs, k, none⟩) hgs).trans cb
      have r0' := (hbq.cell (p := ⟨R, 0, none⟩) hR).trans r0
      have f0' := (hbq.cell (p := ⟨F, 0, none⟩) hF).trans f0
      have hbl := hrb.lt
      have cx := (hbq.cell (p := ⟨b, n1, none⟩) hbl).trans (hrb.cell n1 (by omega))
      have own := HO.out
      have q0 := own.frozenAt k
      have q1 : (wr.cell? ⟨w.heap.size, k, none⟩).isSome = true := by
        rw [own.cellAt k (by omega)]
        simp [outTo, hlk]
      obtain ⟨qv, q2⟩ := Option.isSome_iff_exists.1 q1
      have hO := own.stored k (.bool (mOf vs k n1 == hd))
      rw [outTo_set (fun i => mOf vs i n1 == hd)] at hO
      have HO2 := hid hO.1
      have HB2 := hid (hbq.setCell (p := ⟨w.heap.size, k, none⟩) (Nat.le_refl _) (.bool (mOf vs k n1 == hd)))
      clear hO q1 own HO hsets cb hrb
      generalize mOf vs k n1 = mv at *
      have KS : ∀ (x o : Nat) {v : Value}, x < w.heap.size → wr.cell? ⟨x, o, none⟩ = some v → (wr.setCell ⟨w.heap.size, k, none⟩ (.bool (mv == hd))).drew.cell? ⟨x, o, none⟩ = some v := fun x o v hx hv => by
        show (wr.setCell ⟨w.heap.size, k, none⟩ (.bool (mv == hd))).cell? ⟨x, o, none⟩ = some v
        rw [World.cell?_setCell_other _ _ _ _ (fun e => by have := congrArg Addr.block e; simp at this; omega)]
        exact hv
      have z1 : (0 : Int) ≤ (k : Int) := Int.natCast_nonneg _
      have z2 : (k : Int) < (M : Int) := by omega
      have z3 : (0 : Int) ≤ (n1 : Int) := Int.natCast_nonneg _
      have z4 : (n1 : Int) < ((n1 + 1 : Nat) : Int) := by omega
      have wr2 : IntKind.i64.wrap (n1 : Int) = (n1 : Int) := by rw [IntKind.wrap_i64]; omega
      have wr3 : IntKind.i64.wrap ((n1 : Int) + 1 - 1) = (n1 : Int) := by rw [IntKind.wrap_i64]; omega
      have z5 : (n1 : Int) < (n1 : Int) + 1 := by omega
      go_wp2_with fail
      go_region_held3 (fun w' => w'.cell? ⟨R, 1, none⟩ = some (.slice (some ⟨gs, 0, none⟩) M scap) ∧ w'.cell? ⟨gs, k, none⟩ = some (.slice (some ⟨b, 0, none⟩) (n1 + 1) (n1 + 1)) ∧ w'.cell? ⟨R, 0, none⟩ = some (.pointer (some ⟨F, 0, none⟩)) ∧ w'.cell? ⟨F, 0, none⟩ = some (.slice (some ⟨gp, 0, none⟩) (n1 + 1) cap) ∧ w'.cell? ⟨b, n1, none⟩ = some (.bool mv))
        (first
          | go_keep
          | exact ⟨KS _ _ hR a1', KS _ _ hgs cb', KS _ _ hR r0', KS _ _ hF f0', KS _ _ hbl cx⟩)
        (fail)
      go_wp2_with fail
      go_roundw
      case rel => exact ⟨k + 1, by omega, by go_num, hid (own_keeps HO2.out (below_drewN (Below.refl _ _) 1)), below_drewN HB2.out 1⟩
      case measure => simp [intOf]; omega
    · obtain rfl : k = M := by omega
      have RB : Hid (Rb wr w.heap.size k (fun i => mOf vs i n1 == hd)) := hid ⟨(HO.out.lt _ rfl).2, fun i hi => by rw [HO.out.cellAt i (by omega)]; exact outTo_get _ _ _ hi⟩
      go_wp2_with fail
      go_ret
      exact ⟨w.heap.size, rfl, RB.out, Nat.le_refl _, hbq, HO.out⟩

theorem whole_any (R F gp cap : Nat) (ns : List Nd) (bs vs : List Nat) (hd : Bool) (w : World) (h : RowsM w R F gp cap ns bs vs) (hg : Good ns) (hM : vs.length ≤ 256) :
    Calls Try.prog 53 #[.pointer (some ⟨R, 0, none⟩), .bool hd] w fun e w' => ∃ g, e = .returned (.slice (some ⟨g, 0, none⟩) vs.length vs.length) ∧ Rb w' g vs.length (fun i => mOf vs i (ns.length - 1) == hd) ∧ w.heap.size ≤ g ∧ Below w.heap.size w w' :=
  (whole_own R F gp cap ns bs vs hd w h hg hM).mono fun e w' ⟨g, h1, h2, h3, h4, _⟩ => ⟨g, h1, h2, h3, h4⟩

end Go.Proofs.Ytjagijohfkffiab

/- The walk of the reference's on. -/
namespace Go.Proofs.Ytjagijohfkffiab
open Go.RowKit
set_option linter.unusedVariables false

section
variable (ns : List Nd) (vs : List Nat) (f : Nat → Bool) (a : Nat)
end

theorem toS_lt {ns : List Nd} {vs : List Nat} {i b : Nat} (h : b ∈ toS ns vs i) : b < vs.length := by
  unfold toS toK at h
  rw [List.mem_filter, List.mem_range] at h
  exact h.1
theorem toS_len (ns : List Nd) (vs : List Nat) (i : Nat) : (toS ns vs i).length ≤ vs.length := toK_len ns vs i vs.length

end Go.Proofs.Ytjagijohfkffiab

/- The reference's sets, net, rows, on: joined to the mathematics (Chain, SetsB). Pure. -/
namespace Go.Proofs.Ytjagijohfkffiab
open Go.RowKit
set_option linter.unusedVariables false

theorem bit_eq (S : Nat → Bool) (n : Nat) : EqOn n S (bitF (bitsN S n)) := fun k hk => (bitsN_bit S n k hk).symm

theorem goodV_iff {ns : List Nd} {v : Nat} : goodV ns v = true ↔ fitsP ns (bitF v) ∧ ∃ x, x < 8 ∧ readP ns (bitF v) x := by
  unfold goodV
  rw [Bool.and_eq_true, fitsB_iff, List.any_eq_true]
  constructor
  · rintro ⟨h, x, hx, hr⟩
    exact ⟨h, x, List.mem_range.1 hx, readB_iff.1 hr⟩
  · rintro ⟨h, x, hx, hr⟩
    exact ⟨h, x, List.mem_range.2 hx, readB_iff.2 hr⟩

theorem all_sets {ns : List Nd} (hw : Wf2 ns) : AllSets ns (vsTo ns (2 ^ ns.length)).length (mOf (vsTo ns (2 ^ ns.length))) := by
  have key : ∀ i, i < (vsTo ns (2 ^ ns.length)).length → goodV ns (atN (vsTo ns (2 ^ ns.length)) i) = true := fun i hi => (List.mem_filter.1 (atN_mem hi)).2
  refine ⟨fun i hi => (goodV_iff.1 (key i hi)).1, fun i hi => (goodV_iff.1 (key i hi)).2, fun S x hx hf hr => ?_⟩
  have e := bit_eq S ns.length
  have hm : bitsN S ns.length ∈ vsTo ns (2 ^ ns.length) := List.mem_filter.2 ⟨List.mem_range.2 (bitsN_lt S ns.length), goodV_iff.2 ⟨fits_congr hw e hf, x, hx, read_congr e hr⟩⟩
  obtain ⟨i, hi, ei⟩ := mem_atN hm
  exact ⟨i, hi, by unfold mOf; rw [ei]; exact e⟩

theorem ed_edge (ns : List Nd) (vs : List Nat) : Ed vs.length (toS ns vs) = edgeS ns vs.length (mOf vs) := by
  funext i j
  apply propext
  unfold Ed edgeS toS toK
  rw [List.mem_filter, List.mem_range, folB_iff]
theorem gn_good (ns : List Nd) (vs : List Nat) (c : Nat) : GN vs.length (toS ns vs) ns.length (kpS ns vs) c ↔ GoodN (edgeS ns vs.length (mOf vs)) (markS ns (mOf vs)) ns.length c := by
  unfold GN
  rw [ed_edge]
  exact Iff.rfl

/-- What endless answers of the net of all sets: which may begin an endless row. -/
theorem endless_chain {ns : List Nd} (hw : Wf2 ns) {out : Nat → Bool} (h : ∀ i, out i = true ↔ ∃ c, c < (vsTo ns (2 ^ ns.length)).length ∧ reach (Ed (vsTo ns (2 ^ ns.length)).length (toS ns (vsTo ns (2 ^ ns.length)))) i c ∧ GN (vsTo ns (2 ^ ns.length)).length (toS ns (vsTo ns (2 ^ ns.length))) ns.length (kpS ns (vsTo ns (2 ^ ns.length))) c)
    {i : Nat} (hi : i < (vsTo ns (2 ^ ns.length)).length) : out i = true ↔ chain ns [] (mOf (vsTo ns (2 ^ ns.length)) i) := by
  rw [h, live_good hw (all_sets hw) hi, ed_edge]
  simp only [gn_good]

/-- Those of the places below j that are good. -/
def pickV (vs : List Nat) (good : Nat → Bool) (j : Nat) : List Nat := ((List.range j).filter good).map (atN vs)
theorem pick_len (vs : List Nat) (good : Nat → Bool) (j : Nat) : (pickV vs good j).length ≤ j := by
  have := List.length_filter_le good (List.range j)
  simpa [pickV] using this

theorem live_sets {ns : List Nd} (hw : Wf2 ns) {vs : List Nat} (hA : AllSets ns vs.length (mOf vs)) {good : Nat → Bool} (hg : ∀ i, i < vs.length → (good i = true ↔ chain ns [] (mOf vs i))) :
    LiveSets ns (pickV vs good vs.length).length (mOf (pickV vs good vs.length)) := by
  refine ⟨fun i hi => ?_, fun S hS => ?_⟩
  · have hm := atN_mem hi
    unfold pickV at hm
    obtain ⟨q, hq, e⟩ := List.mem_map.1 hm
    obtain ⟨hr, hgq⟩ := List.mem_filter.1 hq
    have := (hg q (List.mem_range.1 hr)).1 hgq
    unfold mOf at this ⊢
    rw [e] at this
    exact this
  · obtain ⟨x, S', hl, he, hq⟩ := hS
    obtain ⟨f1, f2, _⟩ := (step_iff hw _ _ _).1 (he.step 0)
    obtain ⟨i, hi, e⟩ := hA.all S (x 0) (hl 0) (fits_congr hw hq f1) (read_congr hq f2)
    have hgi := (hg i hi).2 (chain_congr hw e ⟨x, S', hl, he, hq⟩)
    have hm : atN vs i ∈ pickV vs good vs.length := List.mem_map.2 ⟨i, List.mem_filter.2 ⟨List.mem_range.2 hi, hgi⟩, rfl⟩
    obtain ⟨k, hk, ek⟩ := mem_atN hm
    refine ⟨k, hk, ?_⟩
    unfold mOf at e ⊢
    rw [ek]
    exact e

end Go.Proofs.Ytjagijohfkffiab

/- Plain mathematics: the reference's rows behind a word, by the program's views. -/
namespace Go.Proofs.Ytjagijohfkffiab
set_option linter.unusedVariables false

end Go.Proofs.Ytjagijohfkffiab

/- The reference's turned: plain mathematics, and its lists in memory. -/
namespace Go.Proofs.Ytjagijohfkffiab
open Go.RowKit
set_option linter.unusedVariables false

/-- The lists of those from which one comes, as far as places i and the first k ways of place i have been looked at. -/
structure TnP (to : Nat → List Nat) (i k : Nat) (tl : Nat → List Nat) : Prop where
  mem : ∀ j a, a ∈ tl j ↔ (a < i ∧ j ∈ to a) ∨ (a = i ∧ j ∈ (to i).take k)
  len : ∀ j, (tl j).length ≤ 8 * i + ((to i).take k).count j

def updL (f : Nat → List Nat) (b : Nat) (l : List Nat) : Nat → List Nat := fun i => if i = b then l else f i

theorem tn_start (to : Nat → List Nat) : TnP to 0 0 (fun _ => []) := ⟨fun j a => by simp, fun j => by simp⟩
theorem tn_step {to : Nat → List Nat} {i k : Nat} {tl : Nat → List Nat} (h : TnP to i k tl) (hk : k < (to i).length) : TnP to i (k + 1) (updL tl (atN (to i) k) (tl (atN (to i) k) ++ [i])) := by
  have e : (to i).take (k + 1) = (to i).take k ++ [atN (to i) k] := by
    rw [List.take_succ_eq_append_getElem hk]
    simp [atN, List.getD, List.getElem?_eq_getElem hk]
  refine ⟨fun j a => ?_, fun j => ?_⟩
  · rw [e]
    unfold updL
    by_cases ej : j = atN (to i) k
    · rw [if_pos ej, List.mem_append, ← ej, h.mem]
      simp only [List.mem_singleton, List.mem_append]
      constructor
      · rintro ((h1 | h1) | h1)
        · exact Or.inl h1
        · exact Or.inr ⟨h1.1, Or.inl h1.2⟩
        · exact Or.inr ⟨h1, Or.inr trivial⟩
      · rintro (h1 | ⟨h1, h2 | h2⟩)
        · exact Or.inl (Or.inl h1)
        · exact Or.inl (Or.inr ⟨h1, h2⟩)
        · exact Or.inr h1
    · rw [if_neg ej, h.mem]
      simp only [List.mem_append, List.mem_singleton, ej, or_false]
  · rw [e, List.count_append]
    have := h.len j
    unfold updL
    by_cases ej : j = atN (to i) k
    · rw [if_pos ej, List.length_append, List.length_singleton, ← ej]
      simp only [List.count_singleton, beq_self_eq_true, if_true]
      omega
    · rw [if_neg ej]; omega
theorem tn_next {to : Nat → List Nat} {i : Nat} {tl : Nat → List Nat} (h : TnP to i (to i).length tl) (hc : ∀ j, (to i).count j ≤ 8) : TnP to (i + 1) 0 tl := by
  refine ⟨fun j a => ?_, fun j => ?_⟩
  · rw [h.mem, List.take_length]
    simp only [List.take_zero, List.not_mem_nil, and_false, or_false]
    constructor
    · rintro (⟨h1, h2⟩ | ⟨rfl, h2⟩)
      · exact ⟨by omega, h2⟩
      · exact ⟨by omega, h2⟩
    · rintro ⟨h1, h2⟩
      by_cases e : a = i
      · subst e; exact Or.inr ⟨rfl, h2⟩
      · exact Or.inl ⟨by omega, h2⟩
  · have h1 := h.len j
    rw [List.take_length] at h1
    have := hc j
    simp
    omega

/-- The lists in memory, each in a row of its own. -/
structure TnM (w : World) (B0 B g2 N : Nat) (V : Nat → Value) (tl : Nat → List Nat) : Prop where
  out : w.ownsRow B0 22 1 (.slice (some ⟨g2, 0, none⟩) N N) N ((List.range N).map V)
  row : ∀ j, j < N → w.ownsRow B 3 1 (V j) (tl j).length (nInts (tl j))
  sep : ∀ i j, i < N → j < N → i ≠ j → (V i).ownBlock = none ∨ (V i).ownBlock ≠ (V j).ownBlock

theorem TnM.keeps {w w' : World} {B0 B g2 N : Nat} {V : Nat → Value} {tl : Nat → List Nat} (h : TnM w B0 B g2 N V tl) (hb : Below w.heap.size w w') : TnM w' B0 B g2 N V tl := ⟨own_keeps h.out hb, fun j hj => own_keeps (h.row j hj) hb, h.sep⟩

theorem range_set (V : Nat → Value) (N b : Nat) (x : Value) : ((List.range N).map V).set b x = (List.range N).map (fun i => if i = b then x else V i) := by
  apply List.ext_getElem
  · simp
  · intro i h1 h2
    simp at h1
    rw [List.getElem_set]
    simp only [List.getElem_map, List.getElem_range]
    by_cases e : b = i
    · rw [if_pos e, if_pos e.symm]
    · rw [if_neg e, if_neg (fun h => e h.symm)]

/-- One more in the list of b: the row has grown, the slice is stored. -/
theorem tnm_push {w w1 : World} {B0 B g2 N : Nat} {V : Nat → Value} {tl : Nat → List Nat} (h : TnM w B0 B g2 N V tl) {b a gg cc : Nat} (hb : b < N) (hgrow : w.grownBy w1 (V b).ownBlock)
    (hown : w1.ownsRow B 3 1 (.slice (some ⟨gg, 0, none⟩) ((tl b).length + 1) cc) ((tl b).length + 1) (nInts (tl b) ++ [.int .i64 (a : Nat)])) (hat : (V b).ownBlock = some gg ∨ gg = w.heap.size) :
    TnM (w1.setCell ⟨g2, b, none⟩ (.slice (some ⟨gg, 0, none⟩) ((tl b).length + 1) cc)) B0 B g2 N (fun i => if i = b then .slice (some ⟨gg, 0, none⟩) ((tl b).length + 1) cc else V i) (updL tl b (tl b ++ [a])) := by
  have key : ∀ j, j < N → j ≠ b → (V j).ownBlock = none ∨ (V j).ownBlock ≠ some gg := by
    intro j hj hne
    rcases hat with e | e
    · rw [← e]; exact h.sep j b hj hb hne
    · cases ho : (V j).ownBlock with
      | none => exact Or.inl rfl
      | some q =>
        have := ((h.row j hj).lt q ho).2
        exact Or.inr (fun e2 => by cases e2; omega)
  have ho1 := h.out.kept hgrow (own_ne' h.out (h.row b hb) (by decide))
  have hset := ho1.stored b (.slice (some ⟨gg, 0, none⟩) ((tl b).length + 1) cc)
  rw [range_set] at hset
  have hne : ∀ (v : Value) (n : Nat) (xs : List Value), w1.ownsRow B 3 1 v n xs → (w1.setCell ⟨g2, b, none⟩ (.slice (some ⟨gg, 0, none⟩) ((tl b).length + 1) cc)).ownsRow B 3 1 v n xs := by
    intro v n xs hv
    exact hv.kept hset.2 (own_ne' hv ho1 (by decide))
  refine ⟨hset.1, fun j hj => ?_, fun i j hi hj hij => ?_⟩
  · unfold updL
    by_cases e : j = b
    · subst e
      simp only [if_true]
      have := hne _ _ _ hown
      rw [show nInts (tl j) ++ [.int .i64 (a : Nat)] = nInts (tl j ++ [a]) by simp [nInts]] at this
      rw [List.length_append, List.length_singleton]
      exact this
    · simp only [if_neg e]
      exact hne _ _ _ ((h.row j hj).kept hgrow (h.sep j b hj hb e))
  · by_cases e1 : i = b
    · have e2 : j ≠ b := fun e => hij (e1.trans e.symm)
      simp only [if_pos e1, if_neg e2]
      right
      intro e
      rcases key j hj e2 with k | k
      · rw [k] at e; simp [Value.ownBlock] at e
      · exact k e.symm
    · by_cases e2 : j = b
      · simp only [if_neg e1, if_pos e2]
        exact key i hi e1
      · simp only [if_neg e1, if_neg e2]
        exact h.sep i j hi hj hij

end Go.Proofs.Ytjagijohfkffiab
