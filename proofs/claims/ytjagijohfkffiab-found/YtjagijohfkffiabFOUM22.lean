import Derived.Test.YtjagijohfkffiabFOUM07
import Derived.Test.YtjagijohfkffiabFOUM21

/- The walk of verdictkeep's graph: a graph out of raw numbers. (By gen_kgraph.py.) -/
namespace Go.Proofs.Ytjagijohfkffiab
open Go.RowKit
set_option linter.unusedVariables false

/-- A graph's letters and lists as they grow: v1 the letters, v2 the lists, V i the list of node i. -/
structure GrM (w : World) (B : Nat) (v1 v2 : Value) (V : Nat → Value) (xs : List Nat) (ys : Nat → List Nat) (j : Nat) : Prop where
  out : w.ownsRow B 3 1 v1 j (natInts xs)
  nxt : w.ownsRow B 22 1 v2 j ((List.range j).map V)
  row : ∀ i, i < j → w.ownsRow B 3 1 (V i) (ys i).length (natInts (ys i))
  far : ∀ i, i < j → (V i).ownBlock = none ∨ (V i).ownBlock ≠ v1.ownBlock

theorem gr_none (w : World) (B : Nat) (V : Nat → Value) (ys : Nat → List Nat) : GrM w B (.slice none 0 0) (.slice none 0 0) V [] ys 0 :=
  ⟨World.ownsRow_nil _ _ _ _, World.ownsRow_nil _ _ _ _, fun i h => by omega, fun i h => by omega⟩
theorem GrM.keeps {w w' : World} {B : Nat} {v1 v2 : Value} {V : Nat → Value} {xs : List Nat} {ys : Nat → List Nat} {j : Nat} (h : GrM w B v1 v2 V xs ys j) (hb : Below w.heap.size w w') : GrM w' B v1 v2 V xs ys j :=
  ⟨own_keeps h.out hb, own_keeps h.nxt hb, fun i hi => own_keeps (h.row i hi) hb, h.far⟩
theorem GrM.set {w : World} {B : Nat} {v1 v2 : Value} {V : Nat → Value} {xs : List Nat} {ys : Nat → List Nat} {j : Nat} (h : GrM w B v1 v2 V xs ys j) {k : Nat} (hk : k < B) (o : Nat) (u : Value) : GrM (w.setCell ⟨k, o, none⟩ u) B v1 v2 V xs ys j :=
  ⟨own_set_other h.out hk o u, own_set_other h.nxt hk o u, fun i hi => own_set_other (h.row i hi) hk o u, h.far⟩

theorem own_same {B : Nat} {e : TypeId} {k : Nat} {v : Value} {n : Nat} {xs : List Value} {w w' : World} (h : w.ownsRow B e k v n xs) (hk : ∀ q, B ≤ q → q < w.heap.size → w'.heap[q]? = w.heap[q]?) : w'.ownsRow B e k v n xs := by
  refine ⟨h.1, ?_⟩
  rcases h.2 with hn | ⟨g, cap, cur, rfl, hb, hgg, rest⟩
  · exact .inl hn
  · exact .inr ⟨g, cap, cur, rfl, hb, (hk g hb (heap_lt hgg)).trans hgg, rest⟩
theorem GrM.same {w w' : World} {B : Nat} {v1 v2 : Value} {V : Nat → Value} {xs : List Nat} {ys : Nat → List Nat} {j : Nat} (h : GrM w B v1 v2 V xs ys j) (hk : ∀ q, B ≤ q → q < w.heap.size → w'.heap[q]? = w.heap[q]?) : GrM w' B v1 v2 V xs ys j :=
  ⟨own_same h.out hk, own_same h.nxt hk, fun i hi => own_same (h.row i hi) hk, h.far⟩

/-- Between the two appends of a round. -/
structure GrMid (w : World) (B : Nat) (v1 v2 : Value) (V : Nat → Value) (xs : List Nat) (ys : Nat → List Nat) (j : Nat) (v6 : Value) (y : List Nat) : Prop where
  out : w.ownsRow B 3 1 v1 (j + 1) (natInts xs)
  nxt : w.ownsRow B 22 1 v2 j ((List.range j).map V)
  row : ∀ i, i < j → w.ownsRow B 3 1 (V i) (ys i).length (natInts (ys i))
  row6 : w.ownsRow B 3 1 v6 y.length (natInts y)
  far : ∀ i, i < j → (V i).ownBlock = none ∨ (V i).ownBlock ≠ v1.ownBlock
  far6 : v6.ownBlock = none ∨ v6.ownBlock ≠ v1.ownBlock
theorem GrMid.set {w : World} {B : Nat} {v1 v2 v6 : Value} {V : Nat → Value} {xs y : List Nat} {ys : Nat → List Nat} {j : Nat} (h : GrMid w B v1 v2 V xs ys j v6 y) {k : Nat} (hk : k < B) (o : Nat) (u : Value) : GrMid (w.setCell ⟨k, o, none⟩ u) B v1 v2 V xs ys j v6 y :=
  ⟨own_set_other h.out hk o u, own_set_other h.nxt hk o u, fun i hi => own_set_other (h.row i hi) hk o u, own_set_other h.row6 hk o u, h.far, h.far6⟩
theorem GrMid.alloc {w : World} {B : Nat} {v1 v2 v6 : Value} {V : Nat → Value} {xs y : List Nat} {ys : Nat → List Nat} {j : Nat} (h : GrMid w B v1 v2 V xs ys j v6 y) (o : Obj) : GrMid (w.alloc o) B v1 v2 V xs ys j v6 y :=
  ⟨h.out.alloc o, h.nxt.alloc o, fun i hi => (h.row i hi).alloc o, h.row6.alloc o, h.far, h.far6⟩

theorem gmid_of {w w1 : World} {B : Nat} {v1 v2 v6 : Value} {V : Nat → Value} {xs xs' y : List Nat} {ys : Nat → List Nat} {j gg cc : Nat} (h : GrM w B v1 v2 V xs ys j) (h6 : w.ownsRow B 3 1 v6 y.length (natInts y)) (hf6 : v6.ownBlock = none ∨ v6.ownBlock ≠ v1.ownBlock)
    (hgrow : w.grownBy w1 v1.ownBlock) (hown : w1.ownsRow B 3 1 (.slice (some ⟨gg, 0, none⟩) (j + 1) cc) (j + 1) (natInts xs')) (hat : v1.ownBlock = some gg ∨ gg = w.heap.size) : GrMid w1 B (.slice (some ⟨gg, 0, none⟩) (j + 1) cc) v2 V xs' ys j v6 y := by
  have key : ∀ v n zs, w.ownsRow B 3 1 v n zs → (v.ownBlock = none ∨ v.ownBlock ≠ v1.ownBlock) → (v.ownBlock = none ∨ v.ownBlock ≠ (Value.slice (some ⟨gg, 0, none⟩) (j + 1) cc).ownBlock) := by
    intro v n zs ho hne
    rcases hne with e | hne
    · exact Or.inl e
    · refine Or.inr fun e2 => ?_
      have e3 : v.ownBlock = some gg := e2
      rcases hat with e | e
      · exact hne (e3.trans e.symm)
      · have := (ho.lt gg e3).2
        omega
  exact ⟨hown, h.nxt.kept hgrow (own_ne' h.nxt h.out (by decide)), fun i hi => (h.row i hi).kept hgrow (h.far i hi), h6.kept hgrow hf6, fun i hi => key _ _ _ (h.row i hi) (h.far i hi), key _ _ _ h6 hf6⟩

theorem gr_of {w w1 : World} {B : Nat} {v1 v2 v2' v6 : Value} {V : Nat → Value} {xs y : List Nat} {ys : Nat → List Nat} {j : Nat} (h : GrMid w B v1 v2 V xs ys j v6 y) (hgrow : w.grownBy w1 v2.ownBlock)
    (hown : w1.ownsRow B 22 1 v2' (j + 1) ((List.range j).map V ++ [v6])) : GrM w1 B v1 v2' (fun i => if i = j then v6 else V i) xs (fun i => if i = j then y else ys i) (j + 1) := by
  refine ⟨h.out.kept hgrow (own_ne' h.out h.nxt (by decide)), by rw [vs_succ]; exact hown, fun i hi => ?_, fun i hi => ?_⟩
  · by_cases e : i = j
    · subst e; simp only [if_true]; exact h.row6.kept hgrow (own_ne' h.row6 h.nxt (by decide))
    · simp only [if_neg e]; exact (h.row i (by omega)).kept hgrow (own_ne' (h.row i (by omega)) h.nxt (by decide))
  · by_cases e : i = j
    · subst e; simp only [if_true]; exact h.far6
    · simp only [if_neg e]; exact h.far i (by omega)

/-- What 'graph' hands back. -/
def GraphM (w : World) (e : Ending) (w' : World) : Prop := ∃ (a1 : Option Addr) (l1 c1 : Nat) (a2 : Option Addr) (l2 c2 : Nat) (a3 : Option Addr) (l3 c3 : Nat) (zs : List Int) (zss : List (List Int)) (ss : List Int),
  e = .returned (.agg #[.slice a1 l1 c1, .slice a2 l2 c2, .slice a3 l3 c3]) ∧ Ints w' a1 l1 c1 zs ∧ Lists w' a2 l2 c2 zss ∧ Ints w' a3 l3 c3 ss ∧ graphB zs zss ss = true ∧ Below w.heap.size w w'

theorem graph_made {w W : World} {B B3 n m : Nat} {ao1 ao2 ao3 : Option Addr} {cc1 cc2 cc3 : Nat} {V : Nat → Value} {xs ss : List Nat} {ys : Nat → List Nat} (G : GrM W B (.slice ao1 n cc1) (.slice ao2 n cc2) V xs ys n) (O3 : W.ownsRow B3 3 1 (.slice ao3 m cc3) m (natInts ss))
    (hx : (∀ x ∈ xs, x < 8) ∧ ∀ i, i < n → ∀ y ∈ ys i, y < n) (h1 : 1 ≤ n) (h6 : n ≤ 6) (hm : 0 < m) (hs : ∀ x ∈ ss, x < n) (bb : Below w.heap.size w W) : GraphM w (.returned (.agg #[.slice ao1 n cc1, .slice ao2 n cc2, .slice ao3 m cc3])) W := by
  have lx : xs.length = n := by have := G.out.1; simpa [natInts] using this
  have ls : ss.length = m := by have := O3.1; simpa [natInts] using this
  obtain ⟨a1, c1, e1, I1⟩ := own_ints G.out lx
  obtain ⟨a3, c3, e3, I3⟩ := own_ints O3 ls
  cases e1
  cases e3
  have hlen : ((List.range n).map fun i => intsOf (ys i)).length = n := by simp
  have I2 : Lists W ao2 n cc2 ((List.range n).map fun i => intsOf (ys i)) := by
    rcases G.nxt.2 with ⟨e, rfl⟩ | ⟨g, cap, cur, e, hb, hh, hc, hmx, _⟩
    · omega
    · cases e
      refine ⟨hlen, hc, by unfold maxLen at hmx; omega, fun h => by simp at h, fun _ => ⟨g, 0, rfl, heap_lt hh, fun i hi => ?_⟩⟩
      obtain ⟨a, c, hv, hi2⟩ := own_ints (G.row i hi) rfl
      refine ⟨a, (ys i).length, c, ?_, ?_⟩
      · rw [Nat.zero_add, G.nxt.cellAt i (by omega)]
        simp [List.getElem?_map, List.getElem?_range hi, hv]
      · rw [show ((List.range n).map fun i => intsOf (ys i)).getD i [] = intsOf (ys i) by simp [List.getD, List.getElem?_map, List.getElem?_range hi]]
        exact hi2
  have num : ∀ l : List Nat, (∀ x ∈ l, x < n) → numB n (intsOf l) = true := fun l hl => numB_iff.2 fun z hz => by
    obtain ⟨p, hp, rfl⟩ := List.mem_map.1 hz
    have := hl p hp
    exact ⟨by omega, by omega⟩
  refine ⟨ao1, n, cc1, ao2, n, cc2, ao3, m, cc3, intsOf xs, _, intsOf ss, rfl, I1, I2, I3, ?_, bb⟩
  unfold graphB
  rw [intsOf_len, intsOf_len, lx, ls, hlen, allL_ints hx.1, num ss hs]
  have hr : rowsB n ((List.range n).map fun i => intsOf (ys i)) n = true := by
    unfold rowsB
    rw [List.all_eq_true]
    intro i hi
    have hi := List.mem_range.1 hi
    rw [show ((List.range n).map fun i => intsOf (ys i)).getD i [] = intsOf (ys i) by simp [List.getD, List.getElem?_map, List.getElem?_range hi]]
    exact num _ (hx.2 i hi)
  rw [hr]
  simp
  omega

set_option maxHeartbeats 4000000 in
set_option maxRecDepth 100000 in
theorem kgraph_any (a : Option Addr) (l c : Nat) (zs : List Int) (w : World) (h : Ints w a l c zs) (hf : Fits zs) : Calls Try.prog 26 #[.slice a l c] w (GraphM w) := by
  have hl := h.hlen
  have hc := h.hcap
  have hm := h.hmax
  have HF := hid (fun j (hj : j < l) => fits_at hf (j := j) (by rw [hl]; exact hj))
  have HCELL := hid h.hcell
  have N0 : Obj := .cells #[.slice none 0 0, .slice none 0 0, .slice none 0 0] 46
  clear N0
  have B0 := hid (((Below.refl w.heap.size w).alloc (Nat.le_refl _) (.cells #[.slice none 0 0, .slice none 0 0, .slice none 0 0] 46)).alloc (by simp) (.cells #[.slice none 0 0, .slice none 0 0, .slice none 0 0] 46))
  have T0 := hid ((three_new w (.slice none 0 0) (.slice none 0 0) (.slice none 0 0) 46).below ((Below.refl (w.heap.size + 1) _).alloc (by simp) (.cells #[.slice none 0 0, .slice none 0 0, .slice none 0 0] 46)) (Nat.lt_succ_self _))
  have T1 : Hid (Three ((w.alloc (.cells #[.slice none 0 0, .slice none 0 0, .slice none 0 0] 46)).alloc (.cells #[.slice none 0 0, .slice none 0 0, .slice none 0 0] 46)) (w.heap.size + 1) (.slice none 0 0) (.slice none 0 0) (.slice none 0 0)) := hid (by
    have := three_new (w.alloc (.cells #[.slice none 0 0, .slice none 0 0, .slice none 0 0] 46)) (.slice none 0 0) (.slice none 0 0) (.slice none 0 0) 46
    simpa using this)
  obtain ⟨i0, hi, hz0, hz1, hz2⟩ := info_parts Try.infoInt
  obtain ⟨i1, hi1, hz01, hz11, hz21⟩ := info_parts Try.infoInts
  clear h hf hl
  by_cases h0 : l = 0
  · subst h0
    go_enter Try.func26, Try.ntmps26
    go_wp2_with fail
    go_loopw [4, 6] (fun t i wq => ∃ (k j : Nat) (v1 v2 : Value) (V : Nat → Value) (xs : List Nat) (ys : Nat → List Nat), j ≤ 1 ∧ k ≤ 0 ∧ k ≤ 1 + 5 * j ∧ i = .int .i64 j ∧ t = .int .i64 k ∧ Hid (Below w.heap.size w wq) ∧ Hid (Three wq w.heap.size (.slice none 0 0) (.slice none 0 0) (.slice none 0 0)) ∧ Hid (Three wq (w.heap.size + 1) v1 v2 (.slice none 0 0)) ∧ Hid (GrM wq (w.heap.size + 2) v1 v2 V xs ys j) ∧ Hid ((∀ x ∈ xs, x < 8) ∧ ∀ i, i < j → ∀ y ∈ ys i, y < 1)) (fun _ i _ => 1 - (intOf i).toNat)
    case atStart => exact ⟨0, 0, _, _, fun _ => .bool false, [], fun _ => [], Nat.zero_le _, by omega, by omega, rfl, rfl, B0, T0, T1, hid (gr_none _ _ _ _), hid ⟨by simp, fun i h => by omega⟩⟩
    case round =>
      clear B0 T0 T1
      obtain ⟨k, j, v1, v2, V, xs, ys, hj, hk, hk5, rfl, rfl, HB, H0, H1, HG, HX⟩ := hrel
      rename World => W0
      obtain rfl : k = 0 := by omega
      by_cases hlj : j < 1
      · skip
        go_wp2_with fail
        go_loopw [4, 9, 10] (fun t v i wq => ∃ (k' m : Nat) (y : List Nat), k' ≤ 0 ∧ m ≤ 0 ∧ k' ≤ 0 + m ∧ t = .int .i64 k' ∧ i = .int .i64 m ∧ Hid (y.length = m) ∧ Hid (∀ x ∈ y, x < 1) ∧ Hid (wq.ownsRow W0.heap.size 3 1 v m (natInts y)) ∧ Hid (Below W0.heap.size W0 wq)) (fun _ _ i _ => 0 - (intOf i).toNat)
        case atStart => exact ⟨0, 0, [], by omega, Nat.zero_le _, by omega, by first | rfl | go_num, rfl, hid rfl, hid (by simp), hid (World.ownsRow_nil _ _ _ _), hid (Below.refl _ _)⟩
        case round =>
          obtain ⟨k', m, y, hk', hm', hkm, rfl, rfl, HY, HYB, HO, HBq⟩ := hrel
          rename World => W1
          obtain rfl : m = 0 := by omega
          have O6 := HO.out
          have hBq := HBq.out
          have hsq := hBq.size
          have hW0 := H1.out.lt
          obtain ⟨ao6, cap6, rfl⟩ := own_slice O6
          have hL := HG.out.keeps hBq
          have h6 : W1.ownsRow (w.heap.size + 2) 3 1 (.slice ao6 0 cap6) y.length (natInts y) := by
            rw [HY.out]
            exact own_mono O6 (by omega)
          have hf6 : (Value.slice ao6 0 cap6).ownBlock = none ∨ (Value.slice ao6 0 cap6).ownBlock ≠ v1.ownBlock := by
            cases e6 : (Value.slice ao6 0 cap6).ownBlock with
            | none => exact Or.inl rfl
            | some g6 =>
              refine Or.inr fun e7 => ?_
              have q1 := (O6.lt g6 e6).1
              have q2 := (HG.out.out.lt g6 e7.symm).2
              omega
          have t0 := H0.out.below hBq (by omega)
          have t1 := H1.out.below hBq (by omega)
          have k0 := t1.c0
          have BB := hid (HB.out.trans (hBq.mono HB.out.size))
          have HL6 := hid h6
          have HF6 := hid hf6
          have HLL := hid hL
          have T0 := hid t0
          have T1 := hid t1
          have l1 := hL.out
          clear h6 hf6 hL O6 HO t0 t1 HBq hBq H0 H1 HG
          go_wp2_with (at_builtin; go_must (refine wpList_append_lies _ rfl (.tmp 68) (.tmp 70) 22 rfl (w.heap.size + 2) 3 i0 (.int .i64 0) 1 8 Try.underlying22 hi hz0 hz1 hz2 rfl (by decide) _ _ _ rfl (l1.alloc _) ⟨W1.heap.size, 0, none⟩ 1 1 [.int .i64 0] rfl rfl ?c1 ?c2 (by decide) ?c3 ?c4 ?c5 _ rfl ?_))
          case c1 => exact cell_nine_new _ [_] _
          case c2 => intro u hu; simp at hu; subst hu; rfl
          case c3 => unfold maxLen; omega
          case c4 => omega
          case c5 => simp; omega
          intro gg cc w1 hown hgrow hat hlt1
          have bw1 : Below (w.heap.size + 2) W1 w1 := ((Below.refl _ _).alloc (by omega) _).grown hgrow (by simp; omega) (fun k h => (l1.lt k h).1)
          have exs : natInts xs ++ [.int .i64 ((0 : Nat) : Int)] = natInts (xs ++ [0]) := by simp [natInts]
          have hown2 : w1.ownsRow (w.heap.size + 2) 3 1 (.slice (some ⟨gg, 0, none⟩) (j + 1) cc) (j + 1) (natInts (xs ++ [0])) := by
            rw [← exs]
            exact hown
          have M := gmid_of (HLL.out.keeps ((Below.refl _ _).alloc (Nat.le_refl _) _)) (HL6.out.alloc _) HF6.out hgrow hown2 (by rw [World.size_alloc]; exact hat)
          have s0 := T0.out.below bw1 (by omega)
          have s1 := T1.out.below bw1 (by omega)
          have hgs := hgrow.size
          have M2 := hid (M.set (k := w.heap.size + 1) (by omega) 0 (.slice (some ⟨gg, 0, none⟩) (j + 1) cc))
          have U0 := hid (s0.other (k := w.heap.size + 1) (o := 0) (by omega) (.slice (some ⟨gg, 0, none⟩) (j + 1) cc))
          have u1 := s1.set0 (.slice (some ⟨gg, 0, none⟩) (j + 1) cc)
          have d0 := s1.c0
          have d1 := s1.fz 0 (by decide)
          have U1 := hid u1
          have k1 := u1.c1
          have BB1 := hid ((BB.out.trans (bw1.mono (by omega))).setCell (p := ⟨w.heap.size + 1, 0, none⟩) (by show w.heap.size ≤ w.heap.size + 1; omega) (.slice (some ⟨gg, 0, none⟩) (j + 1) cc))
          have n1 := M2.out.nxt
          have hws : w.heap.size + 2 ≤ w1.heap.size := by rw [World.size_alloc] at hgs; omega
          clear hown hown2 hgrow hat M s0 s1 u1 bw1 l1 k0 exs
          go_wp2_with (at_builtin; go_must (refine wpList_append_lies _ rfl (.tmp 74) (.tmp 76) 33 rfl (w.heap.size + 2) 22 i1 (.slice none 0 0) 1 24 Try.underlying33 hi1 hz01 hz11 hz21 rfl (by decide) _ _ _ rfl (n1.alloc _) ⟨w1.heap.size, 0, none⟩ 1 1 [.slice ao6 0 cap6] rfl rfl ?d1 ?d2 (by decide) ?d3 ?d4 ?d5 _ rfl ?_))
          case d1 => exact fun m' u h => by have := cell_nine_new (w1.setCell ⟨w.heap.size + 1, 0, none⟩ (.slice (some ⟨gg, 0, none⟩) (j + 1) cc)) [.slice ao6 0 cap6] 22 m' u h; rw [World.size_setCell] at this; exact this
          case d2 => intro u hu; simp at hu; subst hu; rfl
          case d3 => unfold maxLen; omega
          case d4 => omega
          case d5 => simp; omega
          intro g2 cc2 w2 hown hgrow hat hlt2
          have bw2 := ((Below.refl (w.heap.size + 2) _).alloc (by rw [World.size_setCell]; exact hws) _).grown hgrow (by rw [World.size_alloc, World.size_setCell]; omega) (fun k h => (n1.lt k h).1)
          have L2 := gr_of (M2.out.alloc _) hgrow hown
          have s0 := U0.out.below bw2 (by omega)
          have s1 := U1.out.below bw2 (by omega)
          have L3 := hid (L2.set (k := w.heap.size + 1) (by omega) 1 (.slice (some ⟨g2, 0, none⟩) (j + 1) cc2))
          have V0 := hid (s0.other (k := w.heap.size + 1) (o := 1) (by omega) (.slice (some ⟨g2, 0, none⟩) (j + 1) cc2))
          have V1 := hid (s1.set1 (.slice (some ⟨g2, 0, none⟩) (j + 1) cc2))
          have e0 := s1.c1
          have e1 := s1.fz 1 (by decide)
          have BB2 := hid ((BB1.out.trans (bw2.mono (by omega))).setCell (p := ⟨w.heap.size + 1, 1, none⟩) (by show w.heap.size ≤ w.heap.size + 1; omega) (.slice (some ⟨g2, 0, none⟩) (j + 1) cc2))
          have HX2 : Hid ((∀ p ∈ xs ++ [0], p < 8) ∧ ∀ i, i < j + 1 → ∀ y_1 ∈ (if i = j then y else ys i), y_1 < 1) := hid ⟨fun x hx => by
            rcases List.mem_append.1 hx with h | h
            · exact HX.out.1 x h
            · simp at h; omega, fun i hi q hq => by
            by_cases e : i = j
            · rw [if_pos e] at hq; exact HYB.out q hq
            · rw [if_neg e] at hq; exact HX.out.2 i (by omega) q hq⟩
          clear hown hgrow hat L2 s0 s1 bw2 n1 k1 d0 d1
          go_wp2_with fail
          go_roundw
          case rel => exact ⟨k', j + 1, _, _, _, _, _, by omega, hk', by omega, by go_num, rfl, BB2, V0, V1, L3, HX2⟩
          case measure => simp [intOf]; omega
      · obtain rfl : j = 1 := by omega
        have c2 := H1.out.c2
        have fz2 := H1.out.fz 2 (by decide)
        have hW0 := H1.out.lt
        go_wp2_with (at_builtin; go_must (refine wpList_append_own _ rfl (.tmp 90) (.tmp 92) 22 rfl W0.heap.size 3 i0 (.int .i64 0) 1 8 Try.underlying22 hi hz0 hz1 hz2 rfl (by decide) _ 0 [] rfl (World.ownsRow_nil _ _ _ _) ⟨W0.heap.size, 0, none⟩ 1 1 [.int .i64 0] rfl rfl ?e1 ?e2 ?e3 ?e4 ?e5 ?_))
        case e1 => exact cell_one_new _ _ _
        case e2 => intro u hu; simp at hu; subst hu; rfl
        case e3 => unfold maxLen; omega
        case e4 => omega
        case e5 => simp
        intro v3 w1 hown hgrow _
        have bw1 : Below W0.heap.size W0 w1 := ((Below.refl _ _).alloc (Nat.le_refl _) _).grown hgrow (by simp) (fun k h => by cases h)
        try simp only [Nat.zero_add, List.nil_append] at hown
        obtain ⟨ao3, cc3, rfl⟩ := own_slice hown
        have t1 := H1.out.below bw1 (by omega)
        have t0 := H0.out.below bw1 (by omega)
        have T1' := hid (t1.set2 (.slice ao3 1 cc3))
        have T0' := hid (t0.other (k := w.heap.size + 1) (o := 2) (by omega) (.slice ao3 1 cc3))
        have HK1 : Hid (∀ q, w.heap.size + 2 ≤ q → q < W0.heap.size → (w1.setCell ⟨w.heap.size + 1, 2, none⟩ (.slice ao3 1 cc3)).heap[q]? = W0.heap[q]?) := hid (fun q h1 h2 => by
          rw [Below.heap_setCell _ _ _ _ (by show q ≠ w.heap.size + 1; omega)]
          exact bw1.block q h2)
        have G1 := hid (HG.out.same HK1.out)
        have O1 : Hid ((w1.setCell ⟨w.heap.size + 1, 2, none⟩ (.slice ao3 1 cc3)).ownsRow W0.heap.size 3 1 (.slice ao3 1 cc3) 1 (natInts [0])) := hid (own_set_other hown (k := w.heap.size + 1) (by omega) 2 (.slice ao3 1 cc3))
        have BB1 := hid ((HB.out.trans (bw1.mono HB.out.size)).setCell (p := ⟨w.heap.size + 1, 2, none⟩) (by show w.heap.size ≤ w.heap.size + 1; omega) (.slice ao3 1 cc3))
        have d0 := t1.c2
        have d1 := t1.fz 2 (by decide)
        have hs1 := bw1.size
        clear hown hgrow t0 t1 bw1 c2 fz2

        obtain ⟨ao1, cc1, rfl⟩ := own_slice G1.out.out
        obtain ⟨ao2, cc2, rfl⟩ := own_slice G1.out.nxt
        have k0 := T1'.out.c0
        have k1 := T1'.out.c1
        have k2 := T1'.out.c2
        have r0 := T0'.out.c0
        have r1 := T0'.out.c1
        have r2 := T0'.out.c2
        have f0 := T0'.out.fz 0 (by decide)
        have f1 := T0'.out.fz 1 (by decide)
        have f2 := T0'.out.fz 2 (by decide)
        have GG := hid (((G1.out.set (k := w.heap.size) (by omega) 0 (.slice ao1 1 cc1)).set (k := w.heap.size) (by omega) 1 (.slice ao2 1 cc2)).set (k := w.heap.size) (by omega) 2 (.slice ao3 1 cc3))
        have OO := hid (own_set_other (own_set_other (own_set_other O1.out (k := w.heap.size) (by omega) 0 (.slice ao1 1 cc1)) (k := w.heap.size) (by omega) 1 (.slice ao2 1 cc2)) (k := w.heap.size) (by omega) 2 (.slice ao3 1 cc3))
        have BZ := hid (((BB1.out.setCell (p := ⟨w.heap.size, 0, none⟩) (Nat.le_refl _) (.slice ao1 1 cc1)).setCell (p := ⟨w.heap.size, 1, none⟩) (Nat.le_refl _) (.slice ao2 1 cc2)).setCell (p := ⟨w.heap.size, 2, none⟩) (Nat.le_refl _) (.slice ao3 1 cc3))
        have t := (((T0'.out.set0 (.slice ao1 1 cc1)).set1 (.slice ao2 1 cc2)).set2 (.slice ao3 1 cc3))
        have g0 := t.c0
        have g1 := t.c1
        have g2 := t.c2
        clear t
        go_wp2_with fail
        refine bodyPost_ret (v := .agg #[.slice ao1 1 cc1, .slice ao2 1 cc2, .slice ao3 1 cc3]) (by simp [results, Try.results26, go_sem, g0, g1, g2]) rfl ?_
        exact graph_made (ss := [0]) GG.out OO.out HX.out (by omega) (by omega) (by decide) (fun x h => by simp at h; omega) BZ.out
  · obtain ⟨b, off, rfl, hb, hcl⟩ := HCELL.out (by omega)
    have c0 := (B0.out.cell (p := ⟨b, off + 0, none⟩) hb).trans (hcl 0 (by omega))
    rw [Nat.add_zero] at c0
    have ft0 := HF.out 0 (by omega)
    have j0 : (0 : Int) < (l : Int) := by omega
    generalize zs.getD 0 0 = z0 at *
    go_enter Try.func26, Try.ntmps26
    go_wp2_with fail
    refine (pick_all z0 6 _ (by omega) (by omega) ft0.1 ft0.2).mono ?_
    rintro e w1 ⟨x, rfl, hx, rfl⟩
    obtain ⟨n, hn⟩ : ∃ n : Nat, (1 : Int) + (x : Int) = (n : Int) := ⟨1 + x, by omega⟩
    have hn1 : 1 ≤ n := by omega
    have hn6 : n ≤ 6 := by omega
    clear c0
    go_wp2_with fail
    clear hn
    go_loopw [4, 6] (fun t i wq => ∃ (k j : Nat) (v1 v2 : Value) (V : Nat → Value) (xs : List Nat) (ys : Nat → List Nat), j ≤ n ∧ k ≤ l ∧ k ≤ 1 + 5 * j ∧ i = .int .i64 j ∧ t = .int .i64 k ∧ Hid (Below w.heap.size w wq) ∧ Hid (Three wq w.heap.size (.slice none 0 0) (.slice none 0 0) (.slice none 0 0)) ∧ Hid (Three wq (w.heap.size + 1) v1 v2 (.slice none 0 0)) ∧ Hid (GrM wq (w.heap.size + 2) v1 v2 V xs ys j) ∧ Hid ((∀ x ∈ xs, x < 8) ∧ ∀ i, i < j → ∀ y ∈ ys i, y < n)) (fun _ i _ => n - (intOf i).toNat)
    case atStart => exact ⟨1, 0, _, _, fun _ => .bool false, [], fun _ => [], Nat.zero_le _, by omega, by omega, rfl, rfl, B0, T0, T1, hid (gr_none _ _ _ _), hid ⟨by simp, fun i h => by omega⟩⟩
    case round =>
      clear B0 T0 T1
      obtain ⟨k, j, v1, v2, V, xs, ys, hj, hk, hk5, rfl, rfl, HB, H0, H1, HG, HX⟩ := hrel
      rename World => W0

      by_cases hlj : j < n
      · by_cases hk1 : k + 1 < l
        · have c0 := (HB.out.cell (p := ⟨b, off + k, none⟩) hb).trans (hcl (k) (by omega))
          have c1 := (HB.out.cell (p := ⟨b, off + (k + 1), none⟩) hb).trans (hcl ((k + 1)) (by omega))
          have ft0 := HF.out k (by omega)
          have ft1 := HF.out (k + 1) hk1
          have j0 : (0 : Int) ≤ (k : Int) := by omega
          have j1 : (0 : Int) ≤ (k : Int) + 1 := by omega
          have j2 : (k : Int) + 1 < (l : Int) := by omega
          have j3 : (k : Int) < (l : Int) := by omega
          generalize zs.getD k 0 = z0 at *
          generalize zs.getD (k + 1) 0 = z1 at *
          go_wp2_with fail
          refine (pick_all z0 8 _ (by omega) (by omega) ft0.1 ft0.2).mono ?_
          rintro e w1 ⟨x, rfl, hx, rfl⟩
          go_wp2_with fail
          refine (pick_all z1 4 _ (by omega) (by omega) ft1.1 ft1.2).mono ?_
          rintro e w1' ⟨kk, rfl, hkk, rfl⟩
          rename World => W0
          clear c0 c1 j1 j2 j3
          go_wp2_with fail
          go_loopw [4, 9, 10] (fun t v i wq => ∃ (k' m : Nat) (y : List Nat), k' ≤ l ∧ m ≤ kk ∧ k' ≤ k + 2 + m ∧ t = .int .i64 k' ∧ i = .int .i64 m ∧ Hid (y.length = m) ∧ Hid (∀ x ∈ y, x < n) ∧ Hid (wq.ownsRow W0.heap.size 3 1 v m (natInts y)) ∧ Hid (Below W0.heap.size W0 wq)) (fun _ _ i _ => kk - (intOf i).toNat)
          case atStart => exact ⟨k + 2, 0, [], by omega, Nat.zero_le _, by omega, by first | rfl | go_num, rfl, hid rfl, hid (by simp), hid (World.ownsRow_nil _ _ _ _), hid (Below.refl _ _)⟩
          case round =>
            obtain ⟨k', m, y, hk', hm', hkm, rfl, rfl, HY, HYB, HO, HBq⟩ := hrel
            rename World => W1
            by_cases hx1 : m < kk
            · have x1 : (m : Int) < (kk : Int) := by omega
              by_cases hx2 : k' < l
              · have x2 : (k' : Int) < (l : Int) := by omega
                have x3 : (0 : Int) ≤ (k' : Int) := by omega
                have hb0 : b < W0.heap.size := by have := HB.out.size; omega
                have cz := (HBq.out.cell (p := ⟨b, off + k', none⟩) hb0).trans ((HB.out.cell (p := ⟨b, off + k', none⟩) hb).trans (hcl k' hx2))
                have ft := HF.out k' hx2
                generalize zs.getD k' 0 = z at *
                go_wp2_with fail
                refine (pick_all z n _ (by omega) (by omega) ft.1 ft.2).mono ?_
                rintro e w' ⟨x', rfl, hx', rfl⟩
                have own := HO.out
                have hsz := HBq.out.size
                go_wp2_with (at_builtin; go_must (refine wpList_append_own _ rfl (.tmp 61) (.tmp 63) 22 rfl W0.heap.size 3 i0 (.int .i64 0) 1 8 Try.underlying22 hi hz0 hz1 hz2 rfl (by decide) _ _ _ rfl (own.alloc _) ⟨w'.heap.size, 0, none⟩ 1 1 [.int .i64 x'] rfl rfl ?a1 ?a2 ?a3 ?a4 ?a5 ?_))
                case a1 => exact cell_nine_new _ [_] _
                case a2 => intro u hu; simp at hu; subst hu; rfl
                case a3 => unfold maxLen; omega
                case a4 => omega
                case a5 => simp; omega
                intro v' w1 hown hgrow _
                have B1 := hid ((HBq.out.alloc hsz _).grown hgrow (by simp; omega) (fun k h => (own.lt k h).1))
                have O1 : Hid (w1.ownsRow W0.heap.size 3 1 v' (m + 1) (natInts (y ++ [x']))) := hid (by
                  have e1 : natInts (y ++ [x']) = natInts y ++ [.int .i64 (x' : Nat)] := by simp [natInts]
                  rw [e1]; exact hown)
                have HY2 : Hid ((y ++ [x']).length = m + 1) := hid (by rw [List.length_append, HY.out]; rfl)
                have HYB2 : Hid (∀ x ∈ y ++ [x'], x < n) := hid (fun x hx => by
                  rcases List.mem_append.1 hx with h | h
                  · exact HYB.out x h
                  · simp at h; omega)
                clear hown hgrow own HO HBq cz
                go_wp2_with fail
                go_roundw
                case rel => exact ⟨k' + 1, m + 1, _, by omega, by omega, by omega, by go_num, by go_num, HY2, HYB2, O1, B1⟩
                case measure => simp [intOf]; omega
              · have x2 : decide ((k' : Int) < (l : Int)) = false := by simp; omega
                have O6 := HO.out
                have hBq := HBq.out
                have hsq := hBq.size
                have hW0 := H1.out.lt
                obtain ⟨ao6, cap6, rfl⟩ := own_slice O6
                have hL := HG.out.keeps hBq
                have h6 : W1.ownsRow (w.heap.size + 2) 3 1 (.slice ao6 m cap6) y.length (natInts y) := by
                  rw [HY.out]
                  exact own_mono O6 (by omega)
                have hf6 : (Value.slice ao6 m cap6).ownBlock = none ∨ (Value.slice ao6 m cap6).ownBlock ≠ v1.ownBlock := by
                  cases e6 : (Value.slice ao6 m cap6).ownBlock with
                  | none => exact Or.inl rfl
                  | some g6 =>
                    refine Or.inr fun e7 => ?_
                    have q1 := (O6.lt g6 e6).1
                    have q2 := (HG.out.out.lt g6 e7.symm).2
                    omega
                have t0 := H0.out.below hBq (by omega)
                have t1 := H1.out.below hBq (by omega)
                have k0 := t1.c0
                have BB := hid (HB.out.trans (hBq.mono HB.out.size))
                have HL6 := hid h6
                have HF6 := hid hf6
                have HLL := hid hL
                have T0 := hid t0
                have T1 := hid t1
                have l1 := hL.out
                clear h6 hf6 hL O6 HO t0 t1 HBq hBq H0 H1 HG
                go_wp2_with (at_builtin; go_must (refine wpList_append_lies _ rfl (.tmp 68) (.tmp 70) 22 rfl (w.heap.size + 2) 3 i0 (.int .i64 0) 1 8 Try.underlying22 hi hz0 hz1 hz2 rfl (by decide) _ _ _ rfl (l1.alloc _) ⟨W1.heap.size, 0, none⟩ 1 1 [.int .i64 x] rfl rfl ?c1 ?c2 (by decide) ?c3 ?c4 ?c5 _ rfl ?_))
                case c1 => exact cell_nine_new _ [_] _
                case c2 => intro u hu; simp at hu; subst hu; rfl
                case c3 => unfold maxLen; omega
                case c4 => omega
                case c5 => simp; omega
                intro gg cc w1 hown hgrow hat hlt1
                have bw1 : Below (w.heap.size + 2) W1 w1 := ((Below.refl _ _).alloc (by omega) _).grown hgrow (by simp; omega) (fun k h => (l1.lt k h).1)
                have exs : natInts xs ++ [.int .i64 ((x : Nat) : Int)] = natInts (xs ++ [x]) := by simp [natInts]
                have hown2 : w1.ownsRow (w.heap.size + 2) 3 1 (.slice (some ⟨gg, 0, none⟩) (j + 1) cc) (j + 1) (natInts (xs ++ [x])) := by
                  rw [← exs]
                  exact hown
                have M := gmid_of (HLL.out.keeps ((Below.refl _ _).alloc (Nat.le_refl _) _)) (HL6.out.alloc _) HF6.out hgrow hown2 (by rw [World.size_alloc]; exact hat)
                have s0 := T0.out.below bw1 (by omega)
                have s1 := T1.out.below bw1 (by omega)
                have hgs := hgrow.size
                have M2 := hid (M.set (k := w.heap.size + 1) (by omega) 0 (.slice (some ⟨gg, 0, none⟩) (j + 1) cc))
                have U0 := hid (s0.other (k := w.heap.size + 1) (o := 0) (by omega) (.slice (some ⟨gg, 0, none⟩) (j + 1) cc))
                have u1 := s1.set0 (.slice (some ⟨gg, 0, none⟩) (j + 1) cc)
                have d0 := s1.c0
                have d1 := s1.fz 0 (by decide)
                have U1 := hid u1
                have k1 := u1.c1
                have BB1 := hid ((BB.out.trans (bw1.mono (by omega))).setCell (p := ⟨w.heap.size + 1, 0, none⟩) (by show w.heap.size ≤ w.heap.size + 1; omega) (.slice (some ⟨gg, 0, none⟩) (j + 1) cc))
                have n1 := M2.out.nxt
                have hws : w.heap.size + 2 ≤ w1.heap.size := by rw [World.size_alloc] at hgs; omega
                clear hown hown2 hgrow hat M s0 s1 u1 bw1 l1 k0 exs
                go_wp2_with (at_builtin; go_must (refine wpList_append_lies _ rfl (.tmp 74) (.tmp 76) 33 rfl (w.heap.size + 2) 22 i1 (.slice none 0 0) 1 24 Try.underlying33 hi1 hz01 hz11 hz21 rfl (by decide) _ _ _ rfl (n1.alloc _) ⟨w1.heap.size, 0, none⟩ 1 1 [.slice ao6 m cap6] rfl rfl ?d1 ?d2 (by decide) ?d3 ?d4 ?d5 _ rfl ?_))
                case d1 => exact fun m' u h => by have := cell_nine_new (w1.setCell ⟨w.heap.size + 1, 0, none⟩ (.slice (some ⟨gg, 0, none⟩) (j + 1) cc)) [.slice ao6 m cap6] 22 m' u h; rw [World.size_setCell] at this; exact this
                case d2 => intro u hu; simp at hu; subst hu; rfl
                case d3 => unfold maxLen; omega
                case d4 => omega
                case d5 => simp; omega
                intro g2 cc2 w2 hown hgrow hat hlt2
                have bw2 := ((Below.refl (w.heap.size + 2) _).alloc (by rw [World.size_setCell]; exact hws) _).grown hgrow (by rw [World.size_alloc, World.size_setCell]; omega) (fun k h => (n1.lt k h).1)
                have L2 := gr_of (M2.out.alloc _) hgrow hown
                have s0 := U0.out.below bw2 (by omega)
                have s1 := U1.out.below bw2 (by omega)
                have L3 := hid (L2.set (k := w.heap.size + 1) (by omega) 1 (.slice (some ⟨g2, 0, none⟩) (j + 1) cc2))
                have V0 := hid (s0.other (k := w.heap.size + 1) (o := 1) (by omega) (.slice (some ⟨g2, 0, none⟩) (j + 1) cc2))
                have V1 := hid (s1.set1 (.slice (some ⟨g2, 0, none⟩) (j + 1) cc2))
                have e0 := s1.c1
                have e1 := s1.fz 1 (by decide)
                have BB2 := hid ((BB1.out.trans (bw2.mono (by omega))).setCell (p := ⟨w.heap.size + 1, 1, none⟩) (by show w.heap.size ≤ w.heap.size + 1; omega) (.slice (some ⟨g2, 0, none⟩) (j + 1) cc2))
                have HX2 : Hid ((∀ p ∈ xs ++ [x], p < 8) ∧ ∀ i, i < j + 1 → ∀ y_1 ∈ (if i = j then y else ys i), y_1 < n) := hid ⟨fun x hx => by
                  rcases List.mem_append.1 hx with h | h
                  · exact HX.out.1 x h
                  · simp at h; omega, fun i hi q hq => by
                  by_cases e : i = j
                  · rw [if_pos e] at hq; exact HYB.out q hq
                  · rw [if_neg e] at hq; exact HX.out.2 i (by omega) q hq⟩
                clear hown hgrow hat L2 s0 s1 bw2 n1 k1 d0 d1
                go_wp2_with fail
                go_roundw
                case rel => exact ⟨k', j + 1, _, _, _, _, _, by omega, hk', by omega, by go_num, rfl, BB2, V0, V1, L3, HX2⟩
                case measure => simp [intOf]; omega
            · have x1 : decide ((m : Int) < (kk : Int)) = false := by simp; omega
              have O6 := HO.out
              have hBq := HBq.out
              have hsq := hBq.size
              have hW0 := H1.out.lt
              obtain ⟨ao6, cap6, rfl⟩ := own_slice O6
              have hL := HG.out.keeps hBq
              have h6 : W1.ownsRow (w.heap.size + 2) 3 1 (.slice ao6 m cap6) y.length (natInts y) := by
                rw [HY.out]
                exact own_mono O6 (by omega)
              have hf6 : (Value.slice ao6 m cap6).ownBlock = none ∨ (Value.slice ao6 m cap6).ownBlock ≠ v1.ownBlock := by
                cases e6 : (Value.slice ao6 m cap6).ownBlock with
                | none => exact Or.inl rfl
                | some g6 =>
                  refine Or.inr fun e7 => ?_
                  have q1 := (O6.lt g6 e6).1
                  have q2 := (HG.out.out.lt g6 e7.symm).2
                  omega
              have t0 := H0.out.below hBq (by omega)
              have t1 := H1.out.below hBq (by omega)
              have k0 := t1.c0
              have BB := hid (HB.out.trans (hBq.mono HB.out.size))
              have HL6 := hid h6
              have HF6 := hid hf6
              have HLL := hid hL
              have T0 := hid t0
              have T1 := hid t1
              have l1 := hL.out
              clear h6 hf6 hL O6 HO t0 t1 HBq hBq H0 H1 HG
              go_wp2_with (at_builtin; go_must (refine wpList_append_lies _ rfl (.tmp 68) (.tmp 70) 22 rfl (w.heap.size + 2) 3 i0 (.int .i64 0) 1 8 Try.underlying22 hi hz0 hz1 hz2 rfl (by decide) _ _ _ rfl (l1.alloc _) ⟨W1.heap.size, 0, none⟩ 1 1 [.int .i64 x] rfl rfl ?c1 ?c2 (by decide) ?c3 ?c4 ?c5 _ rfl ?_))
              case c1 => exact cell_nine_new _ [_] _
              case c2 => intro u hu; simp at hu; subst hu; rfl
              case c3 => unfold maxLen; omega
              case c4 => omega
              case c5 => simp; omega
              intro gg cc w1 hown hgrow hat hlt1
              have bw1 : Below (w.heap.size + 2) W1 w1 := ((Below.refl _ _).alloc (by omega) _).grown hgrow (by simp; omega) (fun k h => (l1.lt k h).1)
              have exs : natInts xs ++ [.int .i64 ((x : Nat) : Int)] = natInts (xs ++ [x]) := by simp [natInts]
              have hown2 : w1.ownsRow (w.heap.size + 2) 3 1 (.slice (some ⟨gg, 0, none⟩) (j + 1) cc) (j + 1) (natInts (xs ++ [x])) := by
                rw [← exs]
                exact hown
              have M := gmid_of (HLL.out.keeps ((Below.refl _ _).alloc (Nat.le_refl _) _)) (HL6.out.alloc _) HF6.out hgrow hown2 (by rw [World.size_alloc]; exact hat)
              have s0 := T0.out.below bw1 (by omega)
              have s1 := T1.out.below bw1 (by omega)
              have hgs := hgrow.size
              have M2 := hid (M.set (k := w.heap.size + 1) (by omega) 0 (.slice (some ⟨gg, 0, none⟩) (j + 1) cc))
              have U0 := hid (s0.other (k := w.heap.size + 1) (o := 0) (by omega) (.slice (some ⟨gg, 0, none⟩) (j + 1) cc))
              have u1 := s1.set0 (.slice (some ⟨gg, 0, none⟩) (j + 1) cc)
              have d0 := s1.c0
              have d1 := s1.fz 0 (by decide)
              have U1 := hid u1
              have k1 := u1.c1
              have BB1 := hid ((BB.out.trans (bw1.mono (by omega))).setCell (p := ⟨w.heap.size + 1, 0, none⟩) (by show w.heap.size ≤ w.heap.size + 1; omega) (.slice (some ⟨gg, 0, none⟩) (j + 1) cc))
              have n1 := M2.out.nxt
              have hws : w.heap.size + 2 ≤ w1.heap.size := by rw [World.size_alloc] at hgs; omega
              clear hown hown2 hgrow hat M s0 s1 u1 bw1 l1 k0 exs
              go_wp2_with (at_builtin; go_must (refine wpList_append_lies _ rfl (.tmp 74) (.tmp 76) 33 rfl (w.heap.size + 2) 22 i1 (.slice none 0 0) 1 24 Try.underlying33 hi1 hz01 hz11 hz21 rfl (by decide) _ _ _ rfl (n1.alloc _) ⟨w1.heap.size, 0, none⟩ 1 1 [.slice ao6 m cap6] rfl rfl ?d1 ?d2 (by decide) ?d3 ?d4 ?d5 _ rfl ?_))
              case d1 => exact fun m' u h => by have := cell_nine_new (w1.setCell ⟨w.heap.size + 1, 0, none⟩ (.slice (some ⟨gg, 0, none⟩) (j + 1) cc)) [.slice ao6 m cap6] 22 m' u h; rw [World.size_setCell] at this; exact this
              case d2 => intro u hu; simp at hu; subst hu; rfl
              case d3 => unfold maxLen; omega
              case d4 => omega
              case d5 => simp; omega
              intro g2 cc2 w2 hown hgrow hat hlt2
              have bw2 := ((Below.refl (w.heap.size + 2) _).alloc (by rw [World.size_setCell]; exact hws) _).grown hgrow (by rw [World.size_alloc, World.size_setCell]; omega) (fun k h => (n1.lt k h).1)
              have L2 := gr_of (M2.out.alloc _) hgrow hown
              have s0 := U0.out.below bw2 (by omega)
              have s1 := U1.out.below bw2 (by omega)
              have L3 := hid (L2.set (k := w.heap.size + 1) (by omega) 1 (.slice (some ⟨g2, 0, none⟩) (j + 1) cc2))
              have V0 := hid (s0.other (k := w.heap.size + 1) (o := 1) (by omega) (.slice (some ⟨g2, 0, none⟩) (j + 1) cc2))
              have V1 := hid (s1.set1 (.slice (some ⟨g2, 0, none⟩) (j + 1) cc2))
              have e0 := s1.c1
              have e1 := s1.fz 1 (by decide)
              have BB2 := hid ((BB1.out.trans (bw2.mono (by omega))).setCell (p := ⟨w.heap.size + 1, 1, none⟩) (by show w.heap.size ≤ w.heap.size + 1; omega) (.slice (some ⟨g2, 0, none⟩) (j + 1) cc2))
              have HX2 : Hid ((∀ p ∈ xs ++ [x], p < 8) ∧ ∀ i, i < j + 1 → ∀ y_1 ∈ (if i = j then y else ys i), y_1 < n) := hid ⟨fun x hx => by
                rcases List.mem_append.1 hx with h | h
                · exact HX.out.1 x h
                · simp at h; omega, fun i hi q hq => by
                by_cases e : i = j
                · rw [if_pos e] at hq; exact HYB.out q hq
                · rw [if_neg e] at hq; exact HX.out.2 i (by omega) q hq⟩
              clear hown hgrow hat L2 s0 s1 bw2 n1 k1 d0 d1
              go_wp2_with fail
              go_roundw
              case rel => exact ⟨k', j + 1, _, _, _, _, _, by omega, hk', by omega, by go_num, rfl, BB2, V0, V1, L3, HX2⟩
              case measure => simp [intOf]; omega
        · have j2 : decide ((k : Int) + 1 < (l : Int)) = false := by simp; omega
          have j2n : decide (k + 1 < l) = false := by simp; omega
          go_wp2_with fail
          go_loopw [4, 9, 10] (fun t v i wq => ∃ (k' m : Nat) (y : List Nat), k' ≤ l ∧ m ≤ 0 ∧ k' ≤ k + m ∧ t = .int .i64 k' ∧ i = .int .i64 m ∧ Hid (y.length = m) ∧ Hid (∀ x ∈ y, x < n) ∧ Hid (wq.ownsRow W0.heap.size 3 1 v m (natInts y)) ∧ Hid (Below W0.heap.size W0 wq)) (fun _ _ i _ => 0 - (intOf i).toNat)
          case atStart => exact ⟨k, 0, [], by omega, Nat.zero_le _, by omega, by first | rfl | go_num, rfl, hid rfl, hid (by simp), hid (World.ownsRow_nil _ _ _ _), hid (Below.refl _ _)⟩
          case round =>
            obtain ⟨k', m, y, hk', hm', hkm, rfl, rfl, HY, HYB, HO, HBq⟩ := hrel
            rename World => W1
            obtain rfl : m = 0 := by omega
            have O6 := HO.out
            have hBq := HBq.out
            have hsq := hBq.size
            have hW0 := H1.out.lt
            obtain ⟨ao6, cap6, rfl⟩ := own_slice O6
            have hL := HG.out.keeps hBq
            have h6 : W1.ownsRow (w.heap.size + 2) 3 1 (.slice ao6 0 cap6) y.length (natInts y) := by
              rw [HY.out]
              exact own_mono O6 (by omega)
            have hf6 : (Value.slice ao6 0 cap6).ownBlock = none ∨ (Value.slice ao6 0 cap6).ownBlock ≠ v1.ownBlock := by
              cases e6 : (Value.slice ao6 0 cap6).ownBlock with
              | none => exact Or.inl rfl
              | some g6 =>
                refine Or.inr fun e7 => ?_
                have q1 := (O6.lt g6 e6).1
                have q2 := (HG.out.out.lt g6 e7.symm).2
                omega
            have t0 := H0.out.below hBq (by omega)
            have t1 := H1.out.below hBq (by omega)
            have k0 := t1.c0
            have BB := hid (HB.out.trans (hBq.mono HB.out.size))
            have HL6 := hid h6
            have HF6 := hid hf6
            have HLL := hid hL
            have T0 := hid t0
            have T1 := hid t1
            have l1 := hL.out
            clear h6 hf6 hL O6 HO t0 t1 HBq hBq H0 H1 HG
            go_wp2_with (at_builtin; go_must (refine wpList_append_lies _ rfl (.tmp 68) (.tmp 70) 22 rfl (w.heap.size + 2) 3 i0 (.int .i64 0) 1 8 Try.underlying22 hi hz0 hz1 hz2 rfl (by decide) _ _ _ rfl (l1.alloc _) ⟨W1.heap.size, 0, none⟩ 1 1 [.int .i64 0] rfl rfl ?c1 ?c2 (by decide) ?c3 ?c4 ?c5 _ rfl ?_))
            case c1 => exact cell_nine_new _ [_] _
            case c2 => intro u hu; simp at hu; subst hu; rfl
            case c3 => unfold maxLen; omega
            case c4 => omega
            case c5 => simp; omega
            intro gg cc w1 hown hgrow hat hlt1
            have bw1 : Below (w.heap.size + 2) W1 w1 := ((Below.refl _ _).alloc (by omega) _).grown hgrow (by simp; omega) (fun k h => (l1.lt k h).1)
            have exs : natInts xs ++ [.int .i64 ((0 : Nat) : Int)] = natInts (xs ++ [0]) := by simp [natInts]
            have hown2 : w1.ownsRow (w.heap.size + 2) 3 1 (.slice (some ⟨gg, 0, none⟩) (j + 1) cc) (j + 1) (natInts (xs ++ [0])) := by
              rw [← exs]
              exact hown
            have M := gmid_of (HLL.out.keeps ((Below.refl _ _).alloc (Nat.le_refl _) _)) (HL6.out.alloc _) HF6.out hgrow hown2 (by rw [World.size_alloc]; exact hat)
            have s0 := T0.out.below bw1 (by omega)
            have s1 := T1.out.below bw1 (by omega)
            have hgs := hgrow.size
            have M2 := hid (M.set (k := w.heap.size + 1) (by omega) 0 (.slice (some ⟨gg, 0, none⟩) (j + 1) cc))
            have U0 := hid (s0.other (k := w.heap.size + 1) (o := 0) (by omega) (.slice (some ⟨gg, 0, none⟩) (j + 1) cc))
            have u1 := s1.set0 (.slice (some ⟨gg, 0, none⟩) (j + 1) cc)
            have d0 := s1.c0
            have d1 := s1.fz 0 (by decide)
            have U1 := hid u1
            have k1 := u1.c1
            have BB1 := hid ((BB.out.trans (bw1.mono (by omega))).setCell (p := ⟨w.heap.size + 1, 0, none⟩) (by show w.heap.size ≤ w.heap.size + 1; omega) (.slice (some ⟨gg, 0, none⟩) (j + 1) cc))
            have n1 := M2.out.nxt
            have hws : w.heap.size + 2 ≤ w1.heap.size := by rw [World.size_alloc] at hgs; omega
            clear hown hown2 hgrow hat M s0 s1 u1 bw1 l1 k0 exs
            go_wp2_with (at_builtin; go_must (refine wpList_append_lies _ rfl (.tmp 74) (.tmp 76) 33 rfl (w.heap.size + 2) 22 i1 (.slice none 0 0) 1 24 Try.underlying33 hi1 hz01 hz11 hz21 rfl (by decide) _ _ _ rfl (n1.alloc _) ⟨w1.heap.size, 0, none⟩ 1 1 [.slice ao6 0 cap6] rfl rfl ?d1 ?d2 (by decide) ?d3 ?d4 ?d5 _ rfl ?_))
            case d1 => exact fun m' u h => by have := cell_nine_new (w1.setCell ⟨w.heap.size + 1, 0, none⟩ (.slice (some ⟨gg, 0, none⟩) (j + 1) cc)) [.slice ao6 0 cap6] 22 m' u h; rw [World.size_setCell] at this; exact this
            case d2 => intro u hu; simp at hu; subst hu; rfl
            case d3 => unfold maxLen; omega
            case d4 => omega
            case d5 => simp; omega
            intro g2 cc2 w2 hown hgrow hat hlt2
            have bw2 := ((Below.refl (w.heap.size + 2) _).alloc (by rw [World.size_setCell]; exact hws) _).grown hgrow (by rw [World.size_alloc, World.size_setCell]; omega) (fun k h => (n1.lt k h).1)
            have L2 := gr_of (M2.out.alloc _) hgrow hown
            have s0 := U0.out.below bw2 (by omega)
            have s1 := U1.out.below bw2 (by omega)
            have L3 := hid (L2.set (k := w.heap.size + 1) (by omega) 1 (.slice (some ⟨g2, 0, none⟩) (j + 1) cc2))
            have V0 := hid (s0.other (k := w.heap.size + 1) (o := 1) (by omega) (.slice (some ⟨g2, 0, none⟩) (j + 1) cc2))
            have V1 := hid (s1.set1 (.slice (some ⟨g2, 0, none⟩) (j + 1) cc2))
            have e0 := s1.c1
            have e1 := s1.fz 1 (by decide)
            have BB2 := hid ((BB1.out.trans (bw2.mono (by omega))).setCell (p := ⟨w.heap.size + 1, 1, none⟩) (by show w.heap.size ≤ w.heap.size + 1; omega) (.slice (some ⟨g2, 0, none⟩) (j + 1) cc2))
            have HX2 : Hid ((∀ p ∈ xs ++ [0], p < 8) ∧ ∀ i, i < j + 1 → ∀ y_1 ∈ (if i = j then y else ys i), y_1 < n) := hid ⟨fun x hx => by
              rcases List.mem_append.1 hx with h | h
              · exact HX.out.1 x h
              · simp at h; omega, fun i hi q hq => by
              by_cases e : i = j
              · rw [if_pos e] at hq; exact HYB.out q hq
              · rw [if_neg e] at hq; exact HX.out.2 i (by omega) q hq⟩
            clear hown hgrow hat L2 s0 s1 bw2 n1 k1 d0 d1
            go_wp2_with fail
            go_roundw
            case rel => exact ⟨k', j + 1, _, _, _, _, _, by omega, hk', by omega, by go_num, rfl, BB2, V0, V1, L3, HX2⟩
            case measure => simp [intOf]; omega
      · obtain rfl : n = j := by omega
        by_cases hk0 : k < l
        · have c0 := (HB.out.cell (p := ⟨b, off + k, none⟩) hb).trans (hcl (k) (by omega))
          have ft0 := HF.out k hk0
          have j0 : (0 : Int) ≤ (k : Int) := by omega
          have j3 : (k : Int) < (l : Int) := by omega
          generalize zs.getD k 0 = z0 at *
          go_wp2_with fail
          refine (pick_all z0 n _ (by omega) (by omega) ft0.1 ft0.2).mono ?_
          rintro e W0' ⟨x, rfl, hx, rfl⟩
          rename World => W0
          have c2 := H1.out.c2
          have fz2 := H1.out.fz 2 (by decide)
          have hW0 := H1.out.lt
          go_wp2_with (at_builtin; go_must (refine wpList_append_own _ rfl (.tmp 90) (.tmp 92) 22 rfl W0.heap.size 3 i0 (.int .i64 0) 1 8 Try.underlying22 hi hz0 hz1 hz2 rfl (by decide) _ 0 [] rfl (World.ownsRow_nil _ _ _ _) ⟨W0.heap.size, 0, none⟩ 1 1 [.int .i64 x] rfl rfl ?e1 ?e2 ?e3 ?e4 ?e5 ?_))
          case e1 => exact cell_one_new _ _ _
          case e2 => intro u hu; simp at hu; subst hu; rfl
          case e3 => unfold maxLen; omega
          case e4 => omega
          case e5 => simp
          intro v3 w1 hown hgrow _
          have bw1 : Below W0.heap.size W0 w1 := ((Below.refl _ _).alloc (Nat.le_refl _) _).grown hgrow (by simp) (fun k h => by cases h)
          try simp only [Nat.zero_add, List.nil_append] at hown
          obtain ⟨ao3, cc3, rfl⟩ := own_slice hown
          have t1 := H1.out.below bw1 (by omega)
          have t0 := H0.out.below bw1 (by omega)
          have T1' := hid (t1.set2 (.slice ao3 1 cc3))
          have T0' := hid (t0.other (k := w.heap.size + 1) (o := 2) (by omega) (.slice ao3 1 cc3))
          have HK1 : Hid (∀ q, w.heap.size + 2 ≤ q → q < W0.heap.size → (w1.setCell ⟨w.heap.size + 1, 2, none⟩ (.slice ao3 1 cc3)).heap[q]? = W0.heap[q]?) := hid (fun q h1 h2 => by
            rw [Below.heap_setCell _ _ _ _ (by show q ≠ w.heap.size + 1; omega)]
            exact bw1.block q h2)
          have G1 := hid (HG.out.same HK1.out)
          have O1 : Hid ((w1.setCell ⟨w.heap.size + 1, 2, none⟩ (.slice ao3 1 cc3)).ownsRow W0.heap.size 3 1 (.slice ao3 1 cc3) 1 (natInts [x])) := hid (own_set_other hown (k := w.heap.size + 1) (by omega) 2 (.slice ao3 1 cc3))
          have BB1 := hid ((HB.out.trans (bw1.mono HB.out.size)).setCell (p := ⟨w.heap.size + 1, 2, none⟩) (by show w.heap.size ≤ w.heap.size + 1; omega) (.slice ao3 1 cc3))
          have d0 := t1.c2
          have d1 := t1.fz 2 (by decide)
          have hs1 := bw1.size
          clear hown hgrow t0 t1 bw1 c2 fz2

          by_cases hk1 : k + 1 < l
          · have ck := (BB1.out.cell (p := ⟨b, off + (k + 1), none⟩) hb).trans (hcl ((k + 1)) (by omega))
            have ft := HF.out (k + 1) hk1
            have j1 : (0 : Int) ≤ (k : Int) + 1 := by omega
            have j2 : (k : Int) + 1 < (l : Int) := by omega
            generalize zs.getD (k + 1) 0 = z at *
            go_wp2_with fail
            refine (pick_all z n _ (by omega) (by omega) ft.1 ft.2).mono ?_
            rintro e w2 ⟨x2, rfl, hx2, rfl⟩
            have e0 := T1'.out.c2
            have e1 := T1'.out.fz 2 (by decide)
            have own1 := O1.out
            go_wp2_with (at_builtin; go_must (refine wpList_append_own _ rfl (.tmp 108) (.tmp 110) 22 rfl W0.heap.size 3 i0 (.int .i64 0) 1 8 Try.underlying22 hi hz0 hz1 hz2 rfl (by decide) _ 1 (natInts [x]) rfl (own1.alloc _) ⟨w1.heap.size, 0, none⟩ 1 1 [.int .i64 x2] rfl rfl ?g1 ?g2 ?g3 ?g4 ?g5 ?_))
            case g1 => exact fun m u h => by have := cell_nine_new (w1.setCell ⟨w.heap.size + 1, 2, none⟩ (.slice ao3 1 cc3)) [.int .i64 x2] 3 m u h; rw [World.size_setCell] at this; exact this
            case g2 => intro u hu; simp at hu; subst hu; rfl
            case g3 => unfold maxLen; omega
            case g4 => omega
            case g5 => simp; omega
            intro v4 w3 hown hgrow _
            have bw3 := ((Below.refl W0.heap.size (w1.setCell ⟨w.heap.size + 1, 2, none⟩ (.slice ao3 1 cc3))).alloc (by rw [World.size_setCell]; omega) _).grown hgrow (by rw [World.size_alloc, World.size_setCell]; omega) (fun k h => (own1.lt k h).1)
            obtain ⟨ao4, cc4, rfl⟩ := own_slice hown
            have HK2 : Hid (∀ q, w.heap.size + 2 ≤ q → q < W0.heap.size → (w3.setCell ⟨w.heap.size + 1, 2, none⟩ (.slice ao4 2 cc4)).heap[q]? = W0.heap[q]?) := hid (fun q h1 h2 => by
              rw [Below.heap_setCell _ _ _ _ (by show q ≠ w.heap.size + 1; omega)]
              exact (bw3.block q h2).trans (HK1.out q h1 h2))
            have G2 := hid (HG.out.same HK2.out)
            have t1 := T1'.out.below bw3 (by omega)
            have t0 := T0'.out.below bw3 (by omega)
            have T1'' := hid (t1.set2 (.slice ao4 2 cc4))
            have T0'' := hid (t0.other (k := w.heap.size + 1) (o := 2) (by omega) (.slice ao4 2 cc4))
            have O2 : Hid ((w3.setCell ⟨w.heap.size + 1, 2, none⟩ (.slice ao4 2 cc4)).ownsRow W0.heap.size 3 1 (.slice ao4 2 cc4) 2 (natInts [x, x2])) := hid (own_set_other hown (k := w.heap.size + 1) (by omega) 2 (.slice ao4 2 cc4))
            have BB2 := hid ((BB1.out.trans (bw3.mono (by omega))).setCell (p := ⟨w.heap.size + 1, 2, none⟩) (by show w.heap.size ≤ w.heap.size + 1; omega) (.slice ao4 2 cc4))
            have m0 := t1.c2
            have m1 := t1.fz 2 (by decide)
            have hs3 := bw3.size
            clear hown hgrow t0 t1 bw3 e0 e1 own1 d0 d1 O1 G1 T1' T0' BB1
            obtain ⟨ao1, cc1, rfl⟩ := own_slice G2.out.out
            obtain ⟨ao2, cc2, rfl⟩ := own_slice G2.out.nxt
            have k0 := T1''.out.c0
            have k1 := T1''.out.c1
            have k2 := T1''.out.c2
            have r0 := T0''.out.c0
            have r1 := T0''.out.c1
            have r2 := T0''.out.c2
            have f0 := T0''.out.fz 0 (by decide)
            have f1 := T0''.out.fz 1 (by decide)
            have f2 := T0''.out.fz 2 (by decide)
            have GG := hid (((G2.out.set (k := w.heap.size) (by omega) 0 (.slice ao1 n cc1)).set (k := w.heap.size) (by omega) 1 (.slice ao2 n cc2)).set (k := w.heap.size) (by omega) 2 (.slice ao4 2 cc4))
            have OO := hid (own_set_other (own_set_other (own_set_other O2.out (k := w.heap.size) (by omega) 0 (.slice ao1 n cc1)) (k := w.heap.size) (by omega) 1 (.slice ao2 n cc2)) (k := w.heap.size) (by omega) 2 (.slice ao4 2 cc4))
            have BZ := hid (((BB2.out.setCell (p := ⟨w.heap.size, 0, none⟩) (Nat.le_refl _) (.slice ao1 n cc1)).setCell (p := ⟨w.heap.size, 1, none⟩) (Nat.le_refl _) (.slice ao2 n cc2)).setCell (p := ⟨w.heap.size, 2, none⟩) (Nat.le_refl _) (.slice ao4 2 cc4))
            have t := (((T0''.out.set0 (.slice ao1 n cc1)).set1 (.slice ao2 n cc2)).set2 (.slice ao4 2 cc4))
            have g0 := t.c0
            have g1 := t.c1
            have g2 := t.c2
            clear t
            go_wp2_with fail
            refine bodyPost_ret (v := .agg #[.slice ao1 n cc1, .slice ao2 n cc2, .slice ao4 2 cc4]) (by simp [results, Try.results26, go_sem, g0, g1, g2]) rfl ?_
            exact graph_made (ss := [x, x2]) GG.out OO.out HX.out (by omega) (by omega) (by decide) (fun x h => by simp at h; omega) BZ.out

          · have j2 : decide ((k : Int) + 1 < (l : Int)) = false := by simp; omega
            obtain ⟨ao1, cc1, rfl⟩ := own_slice G1.out.out
            obtain ⟨ao2, cc2, rfl⟩ := own_slice G1.out.nxt
            have k0 := T1'.out.c0
            have k1 := T1'.out.c1
            have k2 := T1'.out.c2
            have r0 := T0'.out.c0
            have r1 := T0'.out.c1
            have r2 := T0'.out.c2
            have f0 := T0'.out.fz 0 (by decide)
            have f1 := T0'.out.fz 1 (by decide)
            have f2 := T0'.out.fz 2 (by decide)
            have GG := hid (((G1.out.set (k := w.heap.size) (by omega) 0 (.slice ao1 n cc1)).set (k := w.heap.size) (by omega) 1 (.slice ao2 n cc2)).set (k := w.heap.size) (by omega) 2 (.slice ao3 1 cc3))
            have OO := hid (own_set_other (own_set_other (own_set_other O1.out (k := w.heap.size) (by omega) 0 (.slice ao1 n cc1)) (k := w.heap.size) (by omega) 1 (.slice ao2 n cc2)) (k := w.heap.size) (by omega) 2 (.slice ao3 1 cc3))
            have BZ := hid (((BB1.out.setCell (p := ⟨w.heap.size, 0, none⟩) (Nat.le_refl _) (.slice ao1 n cc1)).setCell (p := ⟨w.heap.size, 1, none⟩) (Nat.le_refl _) (.slice ao2 n cc2)).setCell (p := ⟨w.heap.size, 2, none⟩) (Nat.le_refl _) (.slice ao3 1 cc3))
            have t := (((T0'.out.set0 (.slice ao1 n cc1)).set1 (.slice ao2 n cc2)).set2 (.slice ao3 1 cc3))
            have g0 := t.c0
            have g1 := t.c1
            have g2 := t.c2
            clear t
            go_wp2_with fail
            refine bodyPost_ret (v := .agg #[.slice ao1 n cc1, .slice ao2 n cc2, .slice ao3 1 cc3]) (by simp [results, Try.results26, go_sem, g0, g1, g2]) rfl ?_
            exact graph_made (ss := [x]) GG.out OO.out HX.out (by omega) (by omega) (by decide) (fun x h => by simp at h; omega) BZ.out
        · have j3 : decide ((k : Int) < (l : Int)) = false := by simp; omega
          have j4 : decide ((k : Int) + 1 < (l : Int)) = false := by simp; omega
          have j5 : ¬ k + 1 < l := by omega
          have j3n : decide (k < l) = false := by simp; omega
          have j4n : decide (k + 1 < l) = false := by simp; omega
          have c2 := H1.out.c2
          have fz2 := H1.out.fz 2 (by decide)
          have hW0 := H1.out.lt
          go_wp2_with (at_builtin; go_must (refine wpList_append_own _ rfl (.tmp 90) (.tmp 92) 22 rfl W0.heap.size 3 i0 (.int .i64 0) 1 8 Try.underlying22 hi hz0 hz1 hz2 rfl (by decide) _ 0 [] rfl (World.ownsRow_nil _ _ _ _) ⟨W0.heap.size, 0, none⟩ 1 1 [.int .i64 0] rfl rfl ?e1 ?e2 ?e3 ?e4 ?e5 ?_))
          case e1 => exact cell_one_new _ _ _
          case e2 => intro u hu; simp at hu; subst hu; rfl
          case e3 => unfold maxLen; omega
          case e4 => omega
          case e5 => simp
          intro v3 w1 hown hgrow _
          have bw1 : Below W0.heap.size W0 w1 := ((Below.refl _ _).alloc (Nat.le_refl _) _).grown hgrow (by simp) (fun k h => by cases h)
          try simp only [Nat.zero_add, List.nil_append] at hown
          obtain ⟨ao3, cc3, rfl⟩ := own_slice hown
          have t1 := H1.out.below bw1 (by omega)
          have t0 := H0.out.below bw1 (by omega)
          have T1' := hid (t1.set2 (.slice ao3 1 cc3))
          have T0' := hid (t0.other (k := w.heap.size + 1) (o := 2) (by omega) (.slice ao3 1 cc3))
          have HK1 : Hid (∀ q, w.heap.size + 2 ≤ q → q < W0.heap.size → (w1.setCell ⟨w.heap.size + 1, 2, none⟩ (.slice ao3 1 cc3)).heap[q]? = W0.heap[q]?) := hid (fun q h1 h2 => by
            rw [Below.heap_setCell _ _ _ _ (by show q ≠ w.heap.size + 1; omega)]
            exact bw1.block q h2)
          have G1 := hid (HG.out.same HK1.out)
          have O1 : Hid ((w1.setCell ⟨w.heap.size + 1, 2, none⟩ (.slice ao3 1 cc3)).ownsRow W0.heap.size 3 1 (.slice ao3 1 cc3) 1 (natInts [0])) := hid (own_set_other hown (k := w.heap.size + 1) (by omega) 2 (.slice ao3 1 cc3))
          have BB1 := hid ((HB.out.trans (bw1.mono HB.out.size)).setCell (p := ⟨w.heap.size + 1, 2, none⟩) (by show w.heap.size ≤ w.heap.size + 1; omega) (.slice ao3 1 cc3))
          have d0 := t1.c2
          have d1 := t1.fz 2 (by decide)
          have hs1 := bw1.size
          clear hown hgrow t0 t1 bw1 c2 fz2

          obtain ⟨ao1, cc1, rfl⟩ := own_slice G1.out.out
          obtain ⟨ao2, cc2, rfl⟩ := own_slice G1.out.nxt
          have k0 := T1'.out.c0
          have k1 := T1'.out.c1
          have k2 := T1'.out.c2
          have r0 := T0'.out.c0
          have r1 := T0'.out.c1
          have r2 := T0'.out.c2
          have f0 := T0'.out.fz 0 (by decide)
          have f1 := T0'.out.fz 1 (by decide)
          have f2 := T0'.out.fz 2 (by decide)
          have GG := hid (((G1.out.set (k := w.heap.size) (by omega) 0 (.slice ao1 n cc1)).set (k := w.heap.size) (by omega) 1 (.slice ao2 n cc2)).set (k := w.heap.size) (by omega) 2 (.slice ao3 1 cc3))
          have OO := hid (own_set_other (own_set_other (own_set_other O1.out (k := w.heap.size) (by omega) 0 (.slice ao1 n cc1)) (k := w.heap.size) (by omega) 1 (.slice ao2 n cc2)) (k := w.heap.size) (by omega) 2 (.slice ao3 1 cc3))
          have BZ := hid (((BB1.out.setCell (p := ⟨w.heap.size, 0, none⟩) (Nat.le_refl _) (.slice ao1 n cc1)).setCell (p := ⟨w.heap.size, 1, none⟩) (Nat.le_refl _) (.slice ao2 n cc2)).setCell (p := ⟨w.heap.size, 2, none⟩) (Nat.le_refl _) (.slice ao3 1 cc3))
          have t := (((T0'.out.set0 (.slice ao1 n cc1)).set1 (.slice ao2 n cc2)).set2 (.slice ao3 1 cc3))
          have g0 := t.c0
          have g1 := t.c1
          have g2 := t.c2
          clear t
          go_wp2_with fail
          refine bodyPost_ret (v := .agg #[.slice ao1 n cc1, .slice ao2 n cc2, .slice ao3 1 cc3]) (by simp [results, Try.results26, go_sem, g0, g1, g2]) rfl ?_
          exact graph_made (ss := [0]) GG.out OO.out HX.out (by omega) (by omega) (by decide) (fun x h => by simp at h; omega) BZ.out

end Go.Proofs.Ytjagijohfkffiab
