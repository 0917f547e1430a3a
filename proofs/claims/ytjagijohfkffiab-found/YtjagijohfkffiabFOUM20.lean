import Derived.Test.YtjagijohfkffiabFOUM13
import Derived.Test.YtjagijohfkffiabFOUM14
import Derived.Test.YtjagijohfkffiabFOUM18
import Derived.Test.YtjagijohfkffiabFOUM19

/- The nodes of a graph in memory; the walks of along, wrong. -/
namespace Go.Proofs.Ytjagijohfkffiab
open Go.RowKit
set_option linter.unusedVariables false

structure NodeM (w : World) (g n : Nat) (lt : Nat → Nat) (ed : Nat → Nat → Bool) (st : Nat → Bool) : Prop where
  blk : g < w.heap.size
  l : ∀ i, i < n → w.cell? ⟨g, i * 8, none⟩ = some (.int .i64 (lt i : Nat))
  e : ∀ i j, i < n → j < 6 → w.cell? ⟨g, i * 8 + (1 + j), none⟩ = some (.bool (ed i j))
  s : ∀ i, i < n → w.cell? ⟨g, i * 8 + 7, none⟩ = some (.bool (st i))
theorem NodeM.below {w w' : World} {g n : Nat} {lt : Nat → Nat} {ed : Nat → Nat → Bool} {st : Nat → Bool} (h : NodeM w g n lt ed st) {B : Nat} (hb : Below B w w') (hB : B ≤ w.heap.size) (hg : g < B) : NodeM w' g n lt ed st :=
  ⟨Nat.lt_of_lt_of_le h.blk hb.size, fun i hi => (hb.cell (p := ⟨g, i * 8, none⟩) hg).trans (h.l i hi), fun i j hi hj => (hb.cell (p := ⟨g, i * 8 + (1 + j), none⟩) hg).trans (h.e i j hi hj), fun i hi => (hb.cell (p := ⟨g, i * 8 + 7, none⟩) hg).trans (h.s i hi)⟩

/-- The ways along the edges, as far as the edge l of node k. -/
structure AlP (lt : Nat → Nat) (ed : Nat → Nat → Bool) (k l : Nat) (tl : Nat → List (Nat × Nat)) : Prop where
  mem : ∀ (t : Nat) (s : Nat × Nat), s ∈ tl t ↔ (s.1 < k ∧ t < 6 ∨ s.1 = k ∧ t < l) ∧ ed s.1 t = true ∧ s.2 = lt s.1
  len : ∀ t, (tl t).length ≤ 6 * k + l
theorem al_start (lt : Nat → Nat) (ed : Nat → Nat → Bool) : AlP lt ed 0 0 (fun _ => []) := ⟨fun t s => by simp, fun t => by simp⟩
theorem al_next {lt : Nat → Nat} {ed : Nat → Nat → Bool} {k : Nat} {tl : Nat → List (Nat × Nat)} (h : AlP lt ed k 6 tl) : AlP lt ed (k + 1) 0 tl :=
  ⟨fun t s => by rw [h.mem]; constructor <;> rintro ⟨a, b⟩ <;> exact ⟨by omega, b⟩, fun t => by have := h.len t; omega⟩
theorem al_skip {lt : Nat → Nat} {ed : Nat → Nat → Bool} {k l : Nat} {tl : Nat → List (Nat × Nat)} (h : AlP lt ed k l tl) (he : ed k l = false) : AlP lt ed k (l + 1) tl := by
  refine ⟨fun t s => ?_, fun t => by have := h.len t; omega⟩
  rw [h.mem]
  constructor
  · rintro ⟨a, b⟩; exact ⟨by omega, b⟩
  · rintro ⟨a, b, c⟩
    refine ⟨?_, b, c⟩
    rcases a with a | ⟨a1, a2⟩
    · exact Or.inl a
    · by_cases e : t = l
      · subst e
        rw [a1, he] at b
        cases b
      · exact Or.inr ⟨a1, by omega⟩
theorem al_add {lt : Nat → Nat} {ed : Nat → Nat → Bool} {k l : Nat} {tl : Nat → List (Nat × Nat)} (h : AlP lt ed k l tl) (he : ed k l = true) : AlP lt ed k (l + 1) (updW tl l (tl l ++ [(k, lt k)])) := by
  refine ⟨fun t s => ?_, fun t => ?_⟩
  · unfold updW
    by_cases e : t = l
    · subst e
      rw [if_pos rfl, List.mem_append, h.mem]
      constructor
      · rintro (⟨a, b⟩ | a)
        · exact ⟨by omega, b⟩
        · simp at a
          subst a
          exact ⟨Or.inr ⟨rfl, by omega⟩, he, rfl⟩
      · rintro ⟨a, b, c⟩
        rcases a with a | ⟨a1, a2⟩
        · exact Or.inl ⟨Or.inl a, b, c⟩
        · right
          simp
          exact Prod.ext a1 (by rw [c, a1])
    · rw [if_neg e, h.mem]
      constructor
      · rintro ⟨a, b⟩; exact ⟨by omega, b⟩
      · rintro ⟨a, b⟩; exact ⟨by omega, b⟩
  · unfold updW
    by_cases e : t = l
    · rw [if_pos e, List.length_append]
      have := h.len l
      simp
      omega
    · rw [if_neg e]
      have := h.len t
      omega
theorem al_ways {lt : Nat → Nat} {ed : Nat → Nat → Bool} {n : Nat} {tl : Nat → List (Nat × Nat)} (h : AlP lt ed n 0 tl) (hn : n ≤ 6) (hlt : ∀ i, i < n → lt i < 8) : WaysP n tl :=
  ⟨by omega, fun t ht s hs => by
    obtain ⟨a, b, c⟩ := (h.mem t s).1 hs
    have : s.1 < n := by omega
    exact ⟨this, by rw [c]; exact hlt _ this⟩, fun t ht => by have := h.len t; omega⟩
theorem al_ew {ns : List Nd} {lt : Nat → Nat} {ed : Nat → Nat → Bool} {n : Nat} {tl : Nat → List (Nat × Nat)} (h : AlP lt ed n 0 tl) (hn : n ≤ 6) {y a : Nat} : Ew n ns tl y a ↔ a < n * 256 ∧ ∃ i, i < n ∧ ed i (a / 256) = true ∧ y = i * 256 + bef ns (lt i) (a % 256) := by
  unfold Ew
  constructor
  · rintro ⟨ha, s, hs, rfl⟩
    obtain ⟨h1, h2, h3⟩ := (h.mem _ _).1 hs
    exact ⟨ha, s.1, by omega, h2, by rw [h3]⟩
  · rintro ⟨ha, i, h1, h2, rfl⟩
    exact ⟨ha, (i, lt i), (h.mem _ _).2 ⟨Or.inl ⟨h1, by omega⟩, h2, rfl⟩, rfl⟩

theorem run_index_6 (e : Nat → Bool) {l : Nat} (hl : l < 6) (W : World) : (Instr.index 147 (.agg #[.bool (e 0), .bool (e 1), .bool (e 2), .bool (e 3), .bool (e 4), .bool (e 5)]) (.int .i64 (l : Nat))).run Try.prog W = .ok (.bool (e l)) W := by
  refine run_index_one W Try.underlying147 (fun w => run_isAgg_bool Try.underlying4 w) Try.boolSize1 hl ?_
  have : l = 0 ∨ l = 1 ∨ l = 2 ∨ l = 3 ∨ l = 4 ∨ l = 5 := by omega
  rcases this with rfl | rfl | rfl | rfl | rfl | rfl <;> rfl

set_option maxHeartbeats 8000000 in
set_option maxRecDepth 100000 in
theorem along_any (g n cap : Nat) (lt : Nat → Nat) (ed : Nat → Nat → Bool) (st : Nat → Bool) (w : World) (h0 : 0 < n) (hn : n ≤ 6) (h : NodeM w g n lt ed st) (hlt : ∀ i, i < n → lt i < 8) (hed : ∀ i j, i < n → ed i j = true → j < n) :
    Calls Try.prog 79 #[.slice (some ⟨g, 0, none⟩) n cap] w fun e w' => ∃ g2 tl, e = .returned (.agg #[.slice (some ⟨g2, 0, none⟩) n n]) ∧ WaysM w' g2 n tl ∧ AlP lt ed n 0 tl ∧ Below w.heap.size w w' := by
  have HR := hid h
  have hg := h.blk
  have HLT := hid hlt
  have HED := hid hed
  clear h hlt hed
  obtain ⟨i0, hi, hz0, hz1, hz2⟩ := info_parts Try.infoSteps
  go_enter Try.func79, Try.ntmps79
  go_wp2_with (at_make; go_must (refine wpList_make_full _ rfl (.tmp 9) (.tmp 9) 153 rfl (w.heap.size + 1) 210 i0 (.slice none 0 0) 1 Try.underlying153 hi hz0 hz1 .i64 .i64 n n n rfl rfl rfl rfl ?m2 ?m3 (by simp) ?_))
  case m2 => rw [hz2]; omega
  case m3 => unfold maxLen; omega
  intro w1 own1 grow1
  have eo : (madeCells #[Value.slice none 0 0] n).toList = (List.range n).map (fun _ => Value.slice none 0 0) := by
    rw [toList_madeCells_one]
    exact (List.eq_replicate_iff.2 ⟨by simp, fun b hb => by obtain ⟨_, _, rfl⟩ := List.mem_map.1 hb; rfl⟩).symm
  have o1 : w1.ownsRow (w.heap.size + 1) 210 1 (.slice (some ⟨w.heap.size + 1, 0, none⟩) n n) n ((List.range n).map (fun _ => Value.slice none 0 0)) := by
    rw [← eo]
    exact own1
  have hlt : w.heap.size + 1 < w1.heap.size := (o1.lt _ rfl).2
  have b0 := ((Below.refl (w.heap.size + 1) (w.alloc (.cells #[.slice none 0 0] 155))).grown grow1 (by simp) (fun k h => by cases h))
  have R0 : w1.cell? ⟨w.heap.size, 0, none⟩ = some (.slice none 0 0) := (b0.cell (p := ⟨w.heap.size, 0, none⟩) (by show w.heap.size < w.heap.size + 1; omega)).trans (by simp)
  have R1 : w1.frozen? ⟨w.heap.size, 0, none⟩ = false := (b0.frozen (p := ⟨w.heap.size, 0, none⟩) (by show w.heap.size < w.heap.size + 1; omega)).trans (by simp)
  have HB1 : Hid (Below w.heap.size w w1) := hid (((Below.refl w.heap.size w).alloc (Nat.le_refl _) (.cells #[.slice none 0 0] 155)).trans (b0.mono (by omega)))
  have M1 : Hid (WyM (w1.alloc (.cells #[.slice (some ⟨w.heap.size + 1, 0, none⟩) n n] 155)) w1.heap.size (w.heap.size + 1) n (fun _ => .slice none 0 0) (fun _ => [])) := hid ⟨hlt, by simp, o1.alloc _, fun j hj => World.ownsRow_nil _ _ _ _, fun i j hi hj h => Or.inl rfl⟩
  have HR1 : Hid ((w1.alloc (.cells #[.slice (some ⟨w.heap.size + 1, 0, none⟩) n n] 155)).cell? ⟨w.heap.size, 0, none⟩ = some (.slice none 0 0) ∧ (w1.alloc (.cells #[.slice (some ⟨w.heap.size + 1, 0, none⟩) n n] 155)).frozen? ⟨w.heap.size, 0, none⟩ = false) := hid ⟨by rw [World.cell?_alloc_lt _ _ _ (by show w.heap.size < w1.heap.size; omega)]; exact R0, by rw [World.frozen?_alloc_past _ _ _ (by show w.heap.size < w1.heap.size; omega)]; exact R1⟩
  have HB2 := hid (HB1.out.alloc (by omega) (.cells #[.slice (some ⟨w.heap.size + 1, 0, none⟩) n n] 155))
  clear own1 grow1 eo o1 b0 R0 R1 HB1
  go_wp2_with fail
  generalize w1.heap.size = T at *
  go_loopw [14] (fun i wq => ∃ (k : Nat) (V : Nat → Value) (tl : Nat → List (Nat × Nat)), k ≤ n ∧ i = .int .i64 k ∧ Hid (AlP lt ed k 0 tl) ∧ Hid (WyM wq T (w.heap.size + 1) n V tl) ∧ Hid (wq.cell? ⟨w.heap.size, 0, none⟩ = some (.slice none 0 0) ∧ wq.frozen? ⟨w.heap.size, 0, none⟩ = false) ∧ Hid (Below w.heap.size w wq)) (fun i _ => n - (intOf i).toNat)
  case atStart => exact ⟨0, _, _, by omega, rfl, hid (al_start lt ed), M1, HR1, HB2⟩
  case round =>
    obtain ⟨k, V, tl, hk, rfl, HW, HM, HRR, HB⟩ := hrel
    rename World => W0
    have hTW := HM.out.Tlt
    have hTg := HM.out.lt
    by_cases hlk : k < n
    · have r := HR.out.below HB.out (Nat.le_refl _) hg
      have q0 := r.l k hlk
      have q1 : W0.cell? ⟨g, k * 8 + 1, none⟩ = some (.bool (ed k 0)) := r.e k 0 hlk (by omega)
      have q2 : W0.cell? ⟨g, k * 8 + 2, none⟩ = some (.bool (ed k 1)) := r.e k 1 hlk (by omega)
      have q3 : W0.cell? ⟨g, k * 8 + 3, none⟩ = some (.bool (ed k 2)) := r.e k 2 hlk (by omega)
      have q4 : W0.cell? ⟨g, k * 8 + 4, none⟩ = some (.bool (ed k 3)) := r.e k 3 hlk (by omega)
      have q5 : W0.cell? ⟨g, k * 8 + 5, none⟩ = some (.bool (ed k 4)) := r.e k 4 hlk (by omega)
      have q6 : W0.cell? ⟨g, k * 8 + 6, none⟩ = some (.bool (ed k 5)) := r.e k 5 hlk (by omega)
      have q7 := r.s k hlk
      have hs := HB.out.size
      clear r
      have bal := hid ((Below.refl W0.heap.size W0).alloc (Nat.le_refl _) (.cells #[.int .i64 (lt k : Nat), .bool (ed k 0), .bool (ed k 1), .bool (ed k 2), .bool (ed k 3), .bool (ed k 4), .bool (ed k 5), .bool (st k)] 152))
      have HM2 := hid (HM.out.keeps bal.out)
      have HR2 := hid (And.intro ((bal.out.cell (p := ⟨w.heap.size, 0, none⟩) (by show w.heap.size < W0.heap.size; omega)).trans HRR.out.1) ((bal.out.frozen (p := ⟨w.heap.size, 0, none⟩) (by show w.heap.size < W0.heap.size; omega)).trans HRR.out.2))
      have HB3 := hid (HB.out.trans (bal.out.mono hs))
      have NB0 : Hid (∀ j, j < n → (V j).ownBlock ≠ some W0.heap.size) := hid (fun j hj e => by have := ((HM.out.row j hj).lt _ e).2; omega)
      have NC0 : Hid ((W0.alloc (.cells #[.int .i64 (lt k : Nat), .bool (ed k 0), .bool (ed k 1), .bool (ed k 2), .bool (ed k 3), .bool (ed k 4), .bool (ed k 5), .bool (st k)] 152)).cell? ⟨W0.heap.size, 0, none⟩ = some (.int .i64 (lt k : Nat))) := hid (by simp)
      have hltk := HLT.out k hlk
      have n70 : W0.heap.size < (W0.alloc (.cells #[.int .i64 (lt k : Nat), .bool (ed k 0), .bool (ed k 1), .bool (ed k 2), .bool (ed k 3), .bool (ed k 4), .bool (ed k 5), .bool (st k)] 152)).heap.size := by simp
      clear bal HM HRR
      go_wp2_with fail
      clear q0 q1 q2 q3 q4 q5 q6 q7
      go_loopw [21] (fun i wq => ∃ (l : Nat) (V : Nat → Value) (tl : Nat → List (Nat × Nat)), l ≤ 6 ∧ i = .int .i64 l ∧ Hid (AlP lt ed k l tl) ∧ Hid (WyM wq T (w.heap.size + 1) n V tl) ∧ Hid (wq.cell? ⟨w.heap.size, 0, none⟩ = some (.slice none 0 0) ∧ wq.frozen? ⟨w.heap.size, 0, none⟩ = false) ∧ Hid (Below w.heap.size w wq) ∧ Hid (∀ j, j < n → (V j).ownBlock ≠ some W0.heap.size) ∧ Hid (wq.cell? ⟨W0.heap.size, 0, none⟩ = some (.int .i64 (lt k : Nat))) ∧ W0.heap.size < wq.heap.size) (fun i _ => 6 - (intOf i).toNat)
      case atStart => exact ⟨0, V, tl, by omega, rfl, HW, HM2, HR2, HB3, NB0, NC0, n70⟩
      case round =>
        obtain ⟨l, V, tl, hl, rfl, HW, HM, HRR, HB, HNB, HNC, hsz⟩ := hrel
        rename World => W3
        clear NB0 NC0 n70 HM2 HR2 HB3
        by_cases hll : l < 6
        · have ix := fun W => run_index_6 (ed k) hll W
          have HLEN := hid (HW.out.len l)
          have nc := HNC.out
          have HEDL := hid (HED.out k l hlk)
          cases he : ed k l with
          | false =>
            have HSK := hid (al_skip HW.out he)
            rw [he] at ix
            clear he
            go_wp2_with fail
            go_roundw
            case rel => exact ⟨l + 1, V, tl, by omega, by go_num, HSK, HM, HRR, HB, HNB, HNC, hsz⟩
            case measure => simp [intOf] <;> omega
          | true =>
            have hto := HEDL.out he
            have HAD := hid (al_add HW.out he)
            have AW := hid (wadd_more T (w.heap.size + 1) n k (lt k) l V tl W3 HM.out (by omega) hlk hltk hto (by have := HLEN.out; omega))
            rw [he] at ix
            clear he
            generalize lt k = lk at *
            go_wp2_with fail
            refine AW.out.mono ?_
            rintro e w5 ⟨rfl, ⟨V5, hm5, hmore⟩, hb5⟩
            obtain ⟨o1, o2⟩ := hmore W0.heap.size hsz (by omega) HNB.out
            have HM5 := hid hm5
            have HNB5 := hid o2
            have HNC5 := hid ((o1 0).trans HNC.out)
            have HR5 := hid (And.intro ((hb5.cell (p := ⟨w.heap.size, 0, none⟩) (by show w.heap.size < w.heap.size + 1; omega)).trans HRR.out.1) ((hb5.frozen (p := ⟨w.heap.size, 0, none⟩) (by show w.heap.size < w.heap.size + 1; omega)).trans HRR.out.2))
            have HB5 := hid (HB.out.trans (hb5.mono (by omega)))
            have hs5 := hb5.size
            clear hm5 hb5 AW HM HRR HB hmore o1 o2 nc
            go_wp2_with fail
            go_roundw
            case rel => exact ⟨l + 1, V5, _, by omega, by go_num, HAD, HM5, HR5, HB5, HNB5, HNC5, by omega⟩
            case measure => simp [intOf] <;> omega
        · obtain rfl : l = 6 := by omega
          have HNXT := hid (al_next HW.out)
          go_wp2_with fail
          go_roundw
          case rel => exact ⟨k + 1, V, tl, by omega, by go_num, HNXT, HM, HRR, HB⟩
          case measure => simp [intOf] <;> omega
    · obtain rfl : k = n := by omega
      have c1 := HM.out.cell
      have r0 := HRR.out.1
      have r1 := HRR.out.2
      have HWW := hid (HM.out.setLow (b := w.heap.size) (by omega) 0 (.slice (some ⟨w.heap.size + 1, 0, none⟩) k k)).ways
      have HB4 := hid (HB.out.setCell (p := ⟨w.heap.size, 0, none⟩) (Nat.le_refl _) (.slice (some ⟨w.heap.size + 1, 0, none⟩) k k))
      have HCC : Hid ((W0.setCell ⟨w.heap.size, 0, none⟩ (.slice (some ⟨w.heap.size + 1, 0, none⟩) k k)).cell? ⟨w.heap.size, 0, none⟩ = some (.slice (some ⟨w.heap.size + 1, 0, none⟩) k k)) := hid (World.cell?_setCell_same _ _ _ r0)
      go_wp2_with fail
      refine ret_ways Try.results79 ?_ ?_ HCC.out ?_
      · rfl
      · rfl
      · exact ⟨_, tl, rfl, HWW.out, HW.out, HB4.out⟩

end Go.Proofs.Ytjagijohfkffiab
