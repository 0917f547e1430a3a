import Derived.Test.YtjagijohfkffiabKINM28
import Derived.Test.YtjagijohfkffiabKINM31
import Derived.Laws.ResultCell

/- The walk of machine.Plain: a plain machine whose lists have room of their own. -/
namespace Go.Proofs.Ytjagijohfkffiab
open Go.RowKit
set_option linter.unusedVariables false

theorem Try.infoInts : (Try.prog.info? 22).map (fun i => (i.zero, i.size, i.bytes)) = some (some (.slice none 0 0), 1, 24) := by kernel_rfl

def intVs (l : List Int) : List Value := l.map (Value.int .i64)
def outsTo (ss : List St) (j : Nat) : List Int := (List.range j).map fun i => (stAt ss i).out
theorem outsTo_succ (ss : List St) (j : Nat) : intVs (outsTo ss (j + 1)) = intVs (outsTo ss j) ++ [.int .i64 (stAt ss j).out] := by simp [outsTo, intVs, List.range_succ]
theorem vs_succ (V : Nat → Value) (j : Nat) (v : Value) : (List.range (j + 1)).map (fun i => if i = j then v else V i) = (List.range j).map V ++ [v] := by
  rw [List.range_succ, List.map_append]
  congr 1
  · apply List.map_congr_left
    intro i hi
    rw [List.mem_range] at hi
    rw [if_neg (by omega)]
  · simp

/-- The lists of a plain machine, each in a row of its own: v1 the Out, v2 the Next, V the lists of Next. -/
structure Lies (w : World) (B : Nat) (v1 v2 : Value) (V : Nat → Value) (ss : List St) (j : Nat) : Prop where
  out : w.ownsRow B 3 1 v1 j (intVs (outsTo ss j))
  nxt : w.ownsRow B 22 1 v2 j ((List.range j).map V)
  row : ∀ i, i < j → w.ownsRow B 3 1 (V i) 8 (intVs (stAt ss i).next)
  sep : ∀ i k, i < k → k < j → (V i).ownBlock ≠ (V k).ownBlock
  far : ∀ i, i < j → v1.ownBlock ≠ (V i).ownBlock

theorem lies_none (w : World) (B : Nat) (V : Nat → Value) (ss : List St) : Lies w B (.slice none 0 0) (.slice none 0 0) V ss 0 :=
  ⟨World.ownsRow_nil _ _ _ _, World.ownsRow_nil _ _ _ _, fun i h => by omega, fun i k _ h => by omega, fun i h => by omega⟩

/-- Nothing of it has turned. -/
theorem Lies.keeps {w w' : World} {B : Nat} {v1 v2 : Value} {V : Nat → Value} {ss : List St} {j : Nat} (h : Lies w B v1 v2 V ss j) (hb : Below w.heap.size w w') : Lies w' B v1 v2 V ss j :=
  ⟨own_keeps h.out hb, own_keeps h.nxt hb, fun i hi => own_keeps (h.row i hi) hb, h.sep, h.far⟩

theorem Lies.mono {w : World} {B B' : Nat} {v1 v2 : Value} {V : Nat → Value} {ss : List St} {j : Nat} (h : Lies w B v1 v2 V ss j) (hb : B' ≤ B) : Lies w B' v1 v2 V ss j :=
  ⟨own_mono h.out hb, own_mono h.nxt hb, fun i hi => own_mono (h.row i hi) hb, h.sep, h.far⟩

/-- A cell below all the rows is written. -/
theorem Lies.set {w : World} {B : Nat} {v1 v2 : Value} {V : Nat → Value} {ss : List St} {j : Nat} (h : Lies w B v1 v2 V ss j) {k : Nat} (hk : k < B) (o : Nat) (u : Value) : Lies (w.setCell ⟨k, o, none⟩ u) B v1 v2 V ss j :=
  ⟨own_set_other h.out hk o u, own_set_other h.nxt hk o u, fun i hi => own_set_other (h.row i hi) hk o u, h.sep, h.far⟩

/-- Between the two appends of a round. -/
structure Mid (w : World) (B : Nat) (v1 v2 : Value) (V : Nat → Value) (ss : List St) (j : Nat) (v6 : Value) : Prop where
  out : w.ownsRow B 3 1 v1 (j + 1) (intVs (outsTo ss (j + 1)))
  nxt : w.ownsRow B 22 1 v2 j ((List.range j).map V)
  row : ∀ i, i < j → w.ownsRow B 3 1 (V i) 8 (intVs (stAt ss i).next)
  row6 : w.ownsRow B 3 1 v6 8 (intVs (stAt ss j).next)
  sep : ∀ i k, i < k → k < j → (V i).ownBlock ≠ (V k).ownBlock
  sep6 : ∀ i, i < j → (V i).ownBlock ≠ v6.ownBlock
  far : ∀ i, i < j → v1.ownBlock ≠ (V i).ownBlock
  far6 : v1.ownBlock ≠ v6.ownBlock

theorem Mid.set {w : World} {B : Nat} {v1 v2 v6 : Value} {V : Nat → Value} {ss : List St} {j : Nat} (h : Mid w B v1 v2 V ss j v6) {k : Nat} (hk : k < B) (o : Nat) (u : Value) : Mid (w.setCell ⟨k, o, none⟩ u) B v1 v2 V ss j v6 :=
  ⟨own_set_other h.out hk o u, own_set_other h.nxt hk o u, fun i hi => own_set_other (h.row i hi) hk o u, own_set_other h.row6 hk o u, h.sep, h.sep6, h.far, h.far6⟩
theorem Mid.alloc {w : World} {B : Nat} {v1 v2 v6 : Value} {V : Nat → Value} {ss : List St} {j : Nat} (h : Mid w B v1 v2 V ss j v6) (o : Obj) : Mid (w.alloc o) B v1 v2 V ss j v6 :=
  ⟨h.out.alloc o, h.nxt.alloc o, fun i hi => (h.row i hi).alloc o, h.row6.alloc o, h.sep, h.sep6, h.far, h.far6⟩

theorem own_lt8 {w : World} {B e : Nat} {v : Value} {n : Nat} {xs : List Value} (h : w.ownsRow B e 1 v n xs) (hn : 0 < n) : ∃ g, v.ownBlock = some g ∧ B ≤ g ∧ g < w.heap.size := by
  obtain ⟨g, cap, rfl, h1, h2, _⟩ := row_own h hn
  exact ⟨g, rfl, h1, h2⟩

theorem mid_of {w w1 : World} {B : Nat} {v1 v2 v6 : Value} {V : Nat → Value} {ss : List St} {j gg cc : Nat} (h : Lies w B v1 v2 V ss j) (h6 : w.ownsRow B 3 1 v6 8 (intVs (stAt ss j).next)) (hs6 : ∀ i, i < j → (V i).ownBlock ≠ v6.ownBlock) (hf6 : v1.ownBlock ≠ v6.ownBlock)
    (hgrow : w.grownBy w1 v1.ownBlock) (hown : w1.ownsRow B 3 1 (.slice (some ⟨gg, 0, none⟩) (j + 1) cc) (j + 1) (intVs (outsTo ss (j + 1)))) (hat : v1.ownBlock = some gg ∨ gg = w.heap.size) : Mid w1 B (.slice (some ⟨gg, 0, none⟩) (j + 1) cc) v2 V ss j v6 := by
  have key : ∀ v xs, w.ownsRow B 3 1 v 8 xs → v1.ownBlock ≠ v.ownBlock → (Value.slice (some ⟨gg, 0, none⟩) (j + 1) cc).ownBlock ≠ v.ownBlock := by
    intro v xs ho hne
    obtain ⟨g, hg, _, hlt⟩ := own_lt8 ho (by decide)
    rw [hg] at hne ⊢
    rcases hat with e | e
    · rw [e] at hne; exact hne
    · intro e2
      simp [Value.ownBlock] at e2
      omega
  exact ⟨hown, h.nxt.kept hgrow (own_ne' h.nxt h.out (by decide)), fun i hi => (h.row i hi).kept hgrow (Or.inr (h.far i hi).symm), h6.kept hgrow (Or.inr hf6.symm), h.sep, hs6, fun i hi => key _ _ (h.row i hi) (h.far i hi), key _ _ h6 hf6⟩

theorem lies_of {w w1 : World} {B : Nat} {v1 v2 v2' v6 : Value} {V : Nat → Value} {ss : List St} {j : Nat} (h : Mid w B v1 v2 V ss j v6) (hgrow : w.grownBy w1 v2.ownBlock)
    (hown : w1.ownsRow B 22 1 v2' (j + 1) ((List.range j).map V ++ [v6])) : Lies w1 B v1 v2' (fun i => if i = j then v6 else V i) ss (j + 1) := by
  refine ⟨h.out.kept hgrow (own_ne' h.out h.nxt (by decide)), by rw [vs_succ]; exact hown, fun i hi => ?_, fun i k hik hk => ?_, fun i hi => ?_⟩
  · by_cases e : i = j
    · subst e; simp only [if_true]; exact h.row6.kept hgrow (own_ne' h.row6 h.nxt (by decide))
    · simp only [if_neg e]; exact (h.row i (by omega)).kept hgrow (own_ne' (h.row i (by omega)) h.nxt (by decide))
  · have e1 : ¬ i = j := by omega
    simp only [if_neg e1]
    by_cases e : k = j
    · subst e; simp only [if_true]; exact h.sep6 i hik
    · simp only [if_neg e]; exact h.sep i k hik (by omega)
  · by_cases e : i = j
    · subst e; simp only [if_true]; exact h.far6
    · simp only [if_neg e]; exact h.far i (by omega)

set_option maxHeartbeats 4000000 in
set_option maxRecDepth 100000 in
theorem plain_any (g n cap B : Nat) (ss : List St) (w : World) (hr : w.ownsRow B 137 9 (.slice (some ⟨g, 0, none⟩) n cap) n (flatS ss)) (h8 : Eight ss) (hl : ss.length = n) (hn : n ≤ 1000) (hg : g < w.heap.size) (hcap : n ≤ cap) :
    Calls Try.prog 41 #[.slice (some ⟨g, 0, none⟩) n cap] w fun e w' => ∃ v1 v2 V, e = .returned (.agg #[v1, v2]) ∧ Lies w' w.heap.size v1 v2 V ss n ∧ Below w.heap.size w w' := by
  have HR := hid hr
  clear hr
  obtain ⟨i0, hi, hz0, hz1, hz2⟩ := info_parts Try.infoInt
  obtain ⟨i1, hi1, hz01, hz11, hz21⟩ := info_parts Try.infoInts
  go_enter Try.func41, Try.ntmps41
  go_wp2_with fail
  go_loopw [12] (fun i wr => ∃ (j : Nat) (v1 v2 : Value) (V : Nat → Value), j ≤ n ∧ i = .int .i64 j ∧ Below w.heap.size w wr ∧
      Two wr w.heap.size (.slice none 0 0) (.slice none 0 0) ∧ Two wr (w.heap.size + 1) v1 v2 ∧ Hid (Lies wr (w.heap.size + 2) v1 v2 V ss j)) (fun i _ => n - (intOf i).toNat)
  case atStart =>
    refine ⟨0, _, _, fun _ => .bool false, Nat.zero_le _, rfl, ((Below.refl _ _).alloc (Nat.le_refl _) _).alloc (by simp) _, ?_, ?_, hid (lies_none _ _ _ _)⟩
    · exact (two_new w _ _ _).below ((Below.refl (w.heap.size + 1) _).alloc (by simp) _) (Nat.lt_succ_self _)
    · have := two_new (w.alloc (.cells #[.slice none 0 0, .slice none 0 0] 35)) (.slice none 0 0) (.slice none 0 0) 35
      simpa using this
  case round =>
    obtain ⟨j, v1, v2, V, hj, rfl, hb, q0, q1, HL⟩ := hrel
    rename World => W0
    by_cases hlt : j < n
    · have S := own_state HR.out h8 hl hlt
      have hs8 := eight_at h8 (i := j) (by omega)
      obtain ⟨a0, a1, a2, a3, a4, a5, a6, a7, ea, HX⟩ := st_lit (stAt ss j).out hs8
      rw [show (⟨(stAt ss j).out, (stAt ss j).next⟩ : St) = stAt ss j from rfl] at ea
      have ec : stCells (stAt ss j) = [.int .i64 (stAt ss j).out, .int .i64 a0, .int .i64 a1, .int .i64 a2, .int .i64 a3, .int .i64 a4, .int .i64 a5, .int .i64 a6, .int .i64 a7] := by
        have := congrArg Array.toList ea
        simpa [stArr] using this
      rw [ec] at S
      have HOS := hid (outsTo_succ ss j)
      have HS8 := hid hs8
      have c0 := (hb.cell (p := ⟨g, j * 9, none⟩) hg).trans (S 0 (by decide))
      have c1 := (hb.cell (p := ⟨g, j * 9 + 1, none⟩) hg).trans (S 1 (by decide))
      have c2 := (hb.cell (p := ⟨g, j * 9 + 2, none⟩) hg).trans (S 2 (by decide))
      have c3 := (hb.cell (p := ⟨g, j * 9 + 3, none⟩) hg).trans (S 3 (by decide))
      have c4 := (hb.cell (p := ⟨g, j * 9 + 4, none⟩) hg).trans (S 4 (by decide))
      have c5 := (hb.cell (p := ⟨g, j * 9 + 5, none⟩) hg).trans (S 5 (by decide))
      have c6 := (hb.cell (p := ⟨g, j * 9 + 6, none⟩) hg).trans (S 6 (by decide))
      have c7 := (hb.cell (p := ⟨g, j * 9 + 7, none⟩) hg).trans (S 7 (by decide))
      have c8 := (hb.cell (p := ⟨g, j * 9 + 8, none⟩) hg).trans (S 8 (by decide))
      simp only [List.getElem?_cons_succ, List.getElem?_cons_zero] at c0 c1 c2 c3 c4 c5 c6 c7 c8
      clear S ea ec hs8
      generalize (stAt ss j).out = o at *
      have hM := q1.lt
      have HQ0 := hid q0
      have HQ1 := hid q1
      clear q0 q1
      go_wp2_with fail
      generalize (#[Value.int .i64 a0, .int .i64 a1, .int .i64 a2, .int .i64 a3, .int .i64 a4, .int .i64 a5, .int .i64 a6, .int .i64 a7] : Array Value) = X at *
      go_loopw [18, 6] (fun i s wq => ∃ (k : Nat), k ≤ 8 ∧ i = .int .i64 k ∧ Below (W0.heap.size + 1) (W0.alloc (.cells #[.int .i64 o, .int .i64 a0, .int .i64 a1, .int .i64 a2, .int .i64 a3, .int .i64 a4, .int .i64 a5, .int .i64 a6, .int .i64 a7] 137)) wq ∧
          Hid (wq.ownsRow (W0.heap.size + 1) 3 1 s k (intVs ((stAt ss j).next.take k)))) (fun i _ _ => 8 - (intOf i).toNat)
      case atStart => exact ⟨0, Nat.zero_le _, rfl, Below.refl _ _, hid (World.ownsRow_nil _ _ _ _)⟩
      case round =>
        obtain ⟨k, hk, rfl, hbq, HO⟩ := hrel
        have hsz := hbq.size
        rw [World.size_alloc] at hsz
        by_cases hlk : k < 8
        · have IX := fun W => run_index_one (P := Try.prog) W Try.underlying135 (run_isAgg_int Try.underlying3) (by kernel_rfl) hlk (HX.out k hlk)
          have HT : Hid (intVs ((stAt ss j).next.take k) ++ [.int .i64 ((stAt ss j).next.getD k 0)] = intVs ((stAt ss j).next.take (k + 1))) := hid (by
            have : k < (stAt ss j).next.length := by rw [HS8.out]; exact hlk
            unfold intVs
            rw [List.take_succ_eq_append_getElem this, List.map_append]
            simp [List.getD, List.getElem?_eq_getElem this])
          generalize (stAt ss j).next.getD k 0 = x at *
          have own := HO.out
          go_wp2_with (at_builtin; go_must (refine wpList_append_own _ rfl (.tmp 21) (.tmp 23) 22 rfl (_ + 1) 3 i0 (.int .i64 0) 1 8 Try.underlying22 hi hz0 hz1 hz2 rfl (by decide) _ _ _ rfl (own.alloc _) ⟨wr.heap.size, 0, none⟩ 1 1 [.int .i64 x] rfl rfl ?c1 ?c2 ?c3 ?c4 ?c5 ?_))
          case c1 => exact cell_nine_new _ [_] _
          case c2 => intro u hu; simp at hu; subst hu; rfl
          case c3 => unfold maxLen; omega
          case c4 => omega
          case c5 => simp; omega
          intro v' w1 hown hgrow _
          have B1 := hid ((hbq.alloc hsz _).grown hgrow (by simp; omega) (fun k h => (own.lt k h).1))
          rw [HT.out] at hown
          have O1 := hid hown
          clear hown hgrow own HO IX hbq
          go_wp2_with fail
          go_roundw
          case rel => exact ⟨k + 1, by omega, by go_num, B1.out, O1⟩
          case measure => simp [intOf]; omega
        · obtain rfl : k = 8 := by omega
          have O6 := HO.out
          rw [List.take_of_length_le (by rw [HS8.out]; exact Nat.le_refl _)] at O6
          have bw : Below W0.heap.size W0 wr := ((Below.refl _ _).alloc (Nat.le_refl _) _).trans (hbq.mono (Nat.le_succ _))
          have L := HL.out.keeps bw
          obtain ⟨g6, cap6, rfl, hg6, hg6', hc6⟩ := row_own O6 (by decide)
          have h6 := own_mono O6 (B' := w.heap.size + 2) (by omega)
          have hs6 : ∀ i, i < j → (V i).ownBlock ≠ (Value.slice (some ⟨g6, 0, none⟩) 8 cap6).ownBlock := fun i hi e => by
            have := (((HL.out).row i hi).lt g6 e).2
            omega
          have hf6 : v1.ownBlock ≠ (Value.slice (some ⟨g6, 0, none⟩) 8 cap6).ownBlock := fun e => by
            have := ((HL.out).out.lt g6 e).2
            omega
          have t0 := HQ0.out.below bw (by omega)
          have t1 := HQ1.out.below bw hM
          have cO := (hbq.cell (p := ⟨W0.heap.size, 0, none⟩) (Nat.lt_succ_self _)).trans (World.cell?_alloc_new W0 _ _ 0)
          simp at cO
          have k0 := t1.c0
          have BB := hid (hb.trans (bw.mono hb.size))
          have HL6 := hid h6
          have HS6 := hid hs6
          have HF6 := hid hf6
          have HLL := hid L
          have T0 := hid t0
          have T1 := hid t1
          have l1 := L.out
          clear h6 hs6 hf6 L O6 HO t0 t1 HX HQ0 HQ1 HL
          go_wp2_with (at_builtin; go_must (refine wpList_append_lies _ rfl (.tmp 27) (.tmp 30) 22 rfl (w.heap.size + 2) 3 i0 (.int .i64 0) 1 8 Try.underlying22 hi hz0 hz1 hz2 rfl (by decide) _ _ _ rfl (l1.alloc _) ⟨wr.heap.size, 0, none⟩ 1 1 [.int .i64 o] rfl rfl ?c1 ?c2 (by decide) ?c3 ?c4 ?c5 _ rfl ?_))
          case c1 => exact cell_nine_new _ [_] _
          case c2 => intro u hu; simp at hu; subst hu; rfl
          case c3 => unfold maxLen; omega
          case c4 => omega
          case c5 => simp; omega
          intro gg cc w1 hown hgrow hat hlt1
          have bw1 : Below (w.heap.size + 2) wr w1 := ((Below.refl _ _).alloc (by omega) _).grown hgrow (by simp; omega) (fun k h => (l1.lt k h).1)
          rw [← HOS.out] at hown
          have M := mid_of (HLL.out.keeps ((Below.refl _ _).alloc (Nat.le_refl _) _)) (HL6.out.alloc _) HS6.out HF6.out hgrow hown (by rw [World.size_alloc]; exact hat)
          have s0 := T0.out.below bw1 (by omega)
          have s1 := T1.out.below bw1 (by omega)
          have hgs := hgrow.size
          have M2 := hid (M.set (k := w.heap.size + 1) (by omega) 0 (.slice (some ⟨gg, 0, none⟩) (j + 1) cc))
          have U0 := hid (s0.other (k := w.heap.size + 1) (o := 0) (by omega) (.slice (some ⟨gg, 0, none⟩) (j + 1) cc))
          have u1 := s1.set0 (.slice (some ⟨gg, 0, none⟩) (j + 1) cc)
          have d0 := s1.c0
          have d1 := s1.f0
          have U1 := hid u1
          have k1 := u1.c1
          have BB1 := hid ((BB.out.trans (bw1.mono (by omega))).setCell (p := ⟨w.heap.size + 1, 0, none⟩) (by show w.heap.size ≤ w.heap.size + 1; omega) (.slice (some ⟨gg, 0, none⟩) (j + 1) cc))
          have n1 := M2.out.nxt
          have hws : w.heap.size + 2 ≤ w1.heap.size := by rw [World.size_alloc] at hgs; omega
          clear hown hgrow hat M s0 s1 u1 bw1 l1 k0 cO
          go_wp2_with (at_builtin; go_must (refine wpList_append_lies _ rfl (.tmp 34) (.tmp 36) 33 rfl (w.heap.size + 2) 22 i1 (.slice none 0 0) 1 24 Try.underlying33 hi1 hz01 hz11 hz21 rfl (by decide) _ _ _ rfl (n1.alloc _) ⟨w1.heap.size, 0, none⟩ 1 1 [.slice (some ⟨g6, 0, none⟩) 8 cap6] rfl rfl ?d1 ?d2 (by decide) ?d3 ?d4 ?d5 _ rfl ?_))
          case d1 => exact fun m u h => by have := cell_nine_new (w1.setCell ⟨w.heap.size + 1, 0, none⟩ (.slice (some ⟨gg, 0, none⟩) (j + 1) cc)) [.slice (some ⟨g6, 0, none⟩) 8 cap6] 22 m u h; rw [World.size_setCell] at this; exact this
          case d2 => intro u hu; simp at hu; subst hu; rfl
          case d3 => unfold maxLen; omega
          case d4 => omega
          case d5 => simp; omega
          intro g2 cc2 w2 hown hgrow hat hlt2
          have bw2 := ((Below.refl (w.heap.size + 2) _).alloc (by rw [World.size_setCell]; exact hws) _).grown hgrow (by rw [World.size_alloc, World.size_setCell]; omega) (fun k h => (n1.lt k h).1)
          have L2 := lies_of (M2.out.alloc _) hgrow hown
          have s0 := U0.out.below bw2 (by omega)
          have s1 := U1.out.below bw2 (by omega)
          have L3 := hid (L2.set (k := w.heap.size + 1) (by omega) 1 (.slice (some ⟨g2, 0, none⟩) (j + 1) cc2))
          have V0 := hid (s0.other (k := w.heap.size + 1) (o := 1) (by omega) (.slice (some ⟨g2, 0, none⟩) (j + 1) cc2))
          have V1 := hid (s1.set1 (.slice (some ⟨g2, 0, none⟩) (j + 1) cc2))
          have e0 := s1.c1
          have e1 := s1.f1
          have BB2 := hid ((BB1.out.trans (bw2.mono (by omega))).setCell (p := ⟨w.heap.size + 1, 1, none⟩) (by show w.heap.size ≤ w.heap.size + 1; omega) (.slice (some ⟨g2, 0, none⟩) (j + 1) cc2))
          clear hown hgrow hat L2 s0 s1 bw2 n1 k1 d0 d1
          go_wp2_with fail
          go_roundw
          case rel => exact ⟨j + 1, _, _, _, by omega, by go_num, BB2.out, V0.out, V1.out, L3⟩
          case measure => simp [intOf]; omega
    · obtain rfl : j = n := by omega
      obtain ⟨ao1, cc1, rfl⟩ := own_slice HL.out.out
      obtain ⟨ao2, cc2, rfl⟩ := own_slice HL.out.nxt
      have k0 := q1.c0
      have k1 := q1.c1
      have r0 := q0.c0
      have r1 := q0.c1
      have f0 := q0.f0
      have f1 := q0.f1
      have L := hid ((HL.out.set (k := w.heap.size) (by omega) 0 (.slice ao1 j cc1)).set (k := w.heap.size) (by omega) 1 (.slice ao2 j cc2))
      have BB := hid ((hb.setCell (p := ⟨w.heap.size, 0, none⟩) (Nat.le_refl _) (.slice ao1 j cc1)).setCell (p := ⟨w.heap.size, 1, none⟩) (Nat.le_refl _) (.slice ao2 j cc2))
      have t := (q0.set0 (.slice ao1 j cc1)).set1 (.slice ao2 j cc2)
      have g0 := t.c0
      have g1 := t.c1
      go_wp2_with fail
      refine bodyPost_ret (v := .agg #[.slice ao1 j cc1, .slice ao2 j cc2]) (by simp [results, Try.results41, go_sem, g0, g1]) rfl ?_
      exact ⟨_, _, V, rfl, L.out.mono (by omega), BB.out⟩

def readErr (s : ByteArray) : Nat := if readB s = true then 0 else 9
/-- What Read hands out: nothing, or a machine whose lists have room of their own. -/
def ReadDone (s : ByteArray) (w : World) (e : Ending) (w' : World) : Prop :=
  Below w.heap.size w w' ∧ ∃ v1 v2, e = .returned (.tuple #[.agg #[v1, v2], .int .i64 (readErr s)]) ∧
  ((readB s = false ∧ v1 = .slice none 0 0 ∧ v2 = .slice none 0 0) ∨ (readB s = true ∧ ∃ V, Lies w' w.heap.size v1 v2 V (statesOf s (bt s 0)) (bt s 0)))

set_option maxHeartbeats 1000000 in
set_option maxRecDepth 100000 in
theorem read_any (s : ByteArray) (w : World) (hm : s.size ≤ maxLen) : Calls Try.prog 31 #[.string s] w (ReadDone s w) := by
  have F := from_any s (w.alloc (.cells #[.slice none 0 0, .slice none 0 0] 35)) hm
  have t := two_new w (.slice none 0 0) (.slice none 0 0) 35
  cases hr : readB s with
  | false =>
    have HV : Hid (readErr s = 9) := hid (by simp [readErr, hr])
    have HR := hid hr
    clear hr
    go_enter Try.func31, Try.ntmps31
    go_wp2_with fail
    refine F.mono ?_
    rintro e w2 ⟨hb2, ⟨_, rfl⟩ | ⟨hx, _⟩⟩
    · have t2 := t.below hb2 (by simp)
      have B2 := hid (((Below.refl w.heap.size w).alloc (Nat.le_refl _) _).trans (hb2.mono (by simp)))
      have c0 := t2.c0
      have c1 := t2.c1
      have f0 := t2.f0
      have f1 := t2.f1
      have t3 := (t2.set0 (.slice none 0 0)).set1 (.slice none 0 0)
      have g0 := t3.c0
      have g1 := t3.c1
      clear hb2 F t t2 t3
      go_wp2_with fail
      refine bodyPost_ret (v := .tuple #[.agg #[.slice none 0 0, .slice none 0 0], .int .i64 9]) (by simp [results, Try.results31, go_sem, g0, g1]) rfl ?_
      unfold ReadDone
      rw [HV.out]
      exact ⟨(B2.out.setCell (p := ⟨w.heap.size, 0, none⟩) (Nat.le_refl _) _).setCell (p := ⟨w.heap.size, 1, none⟩) (Nat.le_refl _) _, _, _, rfl, Or.inl ⟨HR.out, rfl, rfl⟩⟩
    · rw [HR.out] at hx; cases hx
  | true =>
    have HR := hid hr
    have hs := readB_is hr
    have HV : Hid (readErr s = 0) := hid (by simp [readErr, hr])
    have h8 := statesOf_eight s (bt s 0)
    have hlen := statesOf_len s (bt s 0)
    have hw := hs.2.2
    have hn := wfB_iff.1 hw
    rw [hlen] at hn
    clear hr hs
    unfold ReadDone FromDone at *
    generalize statesOf s (bt s 0) = ss at *
    generalize bt s 0 = n at *
    go_enter Try.func31, Try.ntmps31
    go_wp2_with fail
    refine F.mono ?_
    rintro e w2 ⟨hb2, ⟨hx, _⟩ | ⟨_, g, cap, rfl, own⟩⟩
    · rw [HR.out] at hx; cases hx
    · obtain ⟨g', eg, hg0, hg1, hg2⟩ := own_at' own (by omega)
      cases eg
      have P := plain_any g n cap _ ss w2 own h8 hlen (by omega) hg1 hg2
      have t2 := t.below hb2 (by simp)
      have B2 := hid (((Below.refl w.heap.size w).alloc (Nat.le_refl _) _).trans (hb2.mono (by simp)))
      have hs2 := B2.out.size
      clear hb2 F t own
      go_wp2_with fail
      refine P.mono ?_
      rintro e w3 ⟨v1, v2, V, rfl, L, hb3⟩
      obtain ⟨ao1, cc1, hv1⟩ := own_slice L.out
      obtain ⟨ao2, cc2, hv2⟩ := own_slice L.nxt
      subst hv1 hv2
      have t3 := t2.below hb3 t2.lt
      have c0 := t3.c0
      have c1 := t3.c1
      have f0 := t3.f0
      have f1 := t3.f1
      have t4 := (t3.set0 (.slice ao1 n cc1)).set1 (.slice ao2 n cc2)
      have g0 := t4.c0
      have g1 := t4.c1
      have B3 := hid (B2.out.trans (hb3.mono hs2))
      have L3 := hid ((L.set (k := w.heap.size) t2.lt 0 (.slice ao1 n cc1)).set (k := w.heap.size) t2.lt 1 (.slice ao2 n cc2))
      clear hb3 P t2 t3 t4 L
      go_wp2_with fail
      refine bodyPost_ret (v := .tuple #[.agg #[.slice ao1 n cc1, .slice ao2 n cc2], .int .i64 0]) (by simp [results, Try.results31, go_sem, g0, g1]) rfl ?_
      rw [HV.out]
      exact ⟨(B3.out.setCell (p := ⟨w.heap.size, 0, none⟩) (Nat.le_refl _) _).setCell (p := ⟨w.heap.size, 1, none⟩) (Nat.le_refl _) _, _, _, rfl, Or.inr ⟨HR.out, V, L3.out.mono hs2⟩⟩

end Go.Proofs.Ytjagijohfkffiab

/- What Watch answers; the walk of the program's Watch. -/
namespace Go.Proofs.Ytjagijohfkffiab
open Go.RowKit
set_option linter.unusedVariables false

theorem Try.machSize : (Try.prog.info? 35).map (·.size) = some 2 := by kernel_rfl

/-- The states that States lays are those of the words that it has met. -/
theorem stOk_list {ns : List Nd} {liv : Nat → Bool} {us : List (List Nat)} {xs : List Nat} {SS : List St} (h : StOk ns liv (begB ns liv) us xs SS) (hl : SS.length = us.length) : SS = (List.range us.length).map fun i => stK (outU ns liv (begB ns liv) us i) (nxL xs i) := by
  apply List.ext_getElem
  · simp [hl]
  · intro i h1 h2
    obtain ⟨u, hu, _, e⟩ := h i SS[i] (List.getElem?_eq_getElem h1)
    rw [e]
    simp only [List.getElem_map, List.getElem_range]
    unfold stK outU nxL
    rw [show us.getD i [] = u by simp [List.getD, hu]]
    rfl

def Watched (s : ByteArray) (w : World) (e : Ending) (w' : World) : Prop :=
  ∃ v1 v2 er, e = .returned (.tuple #[.agg #[v1, v2], .int .i64 (er : Nat)]) ∧ ((parseOf s).1 ≠ 0 → er = (parseOf s).1 ∧ v1 = .slice none 0 0 ∧ v2 = .slice none 0 0) ∧
    ((parseOf s).1 = 0 → (er = 0 ∧ ∃ ss V, Lies w' w.heap.size v1 v2 V ss ss.length ∧ Eight ss ∧ ss.length ≤ 8 ∧ MachS (parseOf s).2 ss) ∨ (er = 7 ∧ v1 = .slice none 0 0 ∧ v2 = .slice none 0 0 ∧ Big (parseOf s).2)) ∧ Below w.heap.size w w'

section
variable (s : ByteArray) (w : World)

set_option maxHeartbeats 4000000 in
set_option maxRecDepth 100000 in
theorem watch_no (hm : s.size ≤ maxLen) (h : (parseOf s).1 ≠ 0) : Calls Try.prog 14 #[.string s] w (Watched s w) := by
  have C := fun W => parse_any s W hm
  unfold Parsed at C
  unfold Watched
  generalize parseOf s = p at *
  have k : ((p.1 : Int) != 0) = true := by rw [bne_iff_ne]; omega
  go_enter Try.func14, Try.ntmps14
  go_wp2_with fail
  refine (C _).mono ?_
  rintro e w1 ⟨ao, cap, rfl, _, hb⟩
  simp only [World.size_alloc] at hb
  have T1 := (two_new w (.slice none 0 0) (.slice none 0 0) 35).below hb (by omega)
  have d0 := T1.c0
  have d1 := T1.c1
  have e0 := T1.f0
  have e1 := T1.f1
  have HB := hid (((Below.refl w.heap.size w).alloc (Nat.le_refl _) (.cells #[.slice none 0 0, .slice none 0 0] 35)).trans (hb.mono (by omega)))
  clear C hb T1
  go_wp2_with fail
  refine ret_cells_tmp (cs := [.slice none 0 0, .slice none 0 0]) (v := .int .i64 (p.1 : Nat)) (b := w.heap.size) Try.results14 ?_ ?_ ?_ ?_ Try.underlying35 rfl Try.machSize ?_
  · rfl
  · rfl
  · rfl
  · exact two_set d0 d1 _ _
  · exact ⟨_, _, p.1, rfl, fun _ => ⟨rfl, rfl, rfl⟩, fun h0 => absurd h0 h, (HB.out.setCell (p := ⟨w.heap.size, 0, none⟩) (Nat.le_refl _) _).setCell (p := ⟨w.heap.size, 1, none⟩) (Nat.le_refl _) _⟩

set_option maxHeartbeats 4000000 in
set_option maxRecDepth 100000 in
theorem watch_yes (hm : s.size ≤ maxLen) (h : (parseOf s).1 = 0) : Calls Try.prog 14 #[.string s] w (Watched s w) := by
  have C := fun W => parse_any s W hm
  unfold Parsed at C
  have G := hid (parse_good h)
  have SG := hid (parse_seg h)
  unfold Watched
  generalize parseOf s = p at *
  obtain ⟨p1, ns⟩ := p
  dsimp only at *
  subst h
  have hpos := G.out.pos
  obtain ⟨m1', hlen⟩ : ∃ m1', ns.length = m1' + 1 := ⟨ns.length - 1, by omega⟩
  have HLN := hid hlen
  rw [hlen] at C
  clear hlen hpos
  have HOC := hid Try.outCells
  go_enter Try.func14, Try.ntmps14
  go_wp2_with fail
  refine (C _).mono ?_
  rintro e w1 ⟨ao, cap, rfl, own, hb⟩
  simp only [World.size_alloc] at hb
  obtain ⟨gn, rfl, _, hgn, _⟩ := own_at own (by omega)
  have ND := hid (ndM_of own HLN.out)
  have T1 := hid ((two_new w (.slice none 0 0) (.slice none 0 0) 35).below hb (by omega))
  have HB1 := hid (((Below.refl w.heap.size w).alloc (Nat.le_refl _) (.cells #[.slice none 0 0, .slice none 0 0] 35)).trans (hb.mono (by omega)))
  have hs1 : w.heap.size < w1.heap.size := T1.out.lt
  clear C own hb
  go_wp2_with fail
  refine (look_any gn m1' cap ns _ ND.out G.out HLN.out).mono ?_
  rintro e w3 ⟨sl, liv, rfl, hlv, hcv, hon, hb3⟩
  have HLV := hid hlv
  have HB3 := hid (HB1.out.trans (hb3.mono (by omega)))
  have T3 := hid (T1.out.below hb3 hs1)
  have hs3 : w.heap.size < w3.heap.size := T3.out.lt
  clear hlv hb3 hcv ND HB1 T1
  have hth : (w3.alloc (.cells Try.zeroCells71 71)).there w3.heap.size 0 2561 := by
    have := raw_new w3 (outC (fun _ => 0) (.slice none 0 0) (fun _ => false) (fun _ => false)) 2561 71
    rw [← HOC.out] at this
    exact this.there 0 2561 (by omega)
  have HTH := hid hth
  clear hth
  go_wp2_with (refine wpList_store_raw rfl 71 (.tmp 6) (.tmp 20) rfl w3.heap.size 2561 (outC (befF ns) sl liv (begB ns liv)) rfl rfl HTH.out Try.outSize (outC_one _ _ _ hon) ?_)
  intro w4 S4
  have OM := hid (outM_of S4.at_)
  have bw4 : Below w3.heap.size w3 w4 := S4.bel _ _ (Nat.le_refl _) ((Below.refl _ _).alloc (Nat.le_refl _) _)
  have HB4 := hid (HB3.out.trans (bw4.mono (by omega)))
  have T4 := hid (T3.out.below bw4 hs3)
  have hs4 : w.heap.size < w4.heap.size := T4.out.lt
  have h8 := G.out.le
  clear S4 HTH HB3 bw4 T3
  go_wp2_with fail
  refine (states_any w3.heap.size ns liv (begB ns liv) w4 h8 (fun us xs hE => expl_few G.out SG.out HLV.out hE) OM.out).mono ?_
  rintro e w5 ⟨us, xs, SS, vS, rfl, hE, hx, hSl, hSO, hown, hb5⟩
  have hK := expl_few G.out SG.out HLV.out hE
  have hK0 : 0 < us.length := (List.getElem?_eq_some_iff.1 hE.first).1
  rw [stOk_list hSO hSl] at hown
  obtain ⟨aoS, cpS, rfl⟩ := own_slice hown
  obtain ⟨gS, rfl, _, hgS, _⟩ := own_at' hown hK0
  have HE := hid hE
  have HX := hid hx
  have HOW := hid hown
  have HB5 := hid (HB4.out.trans (hb5.mono (by omega)))
  have T5 := hid (T4.out.below hb5 hs4)
  have hs5 : w.heap.size < w5.heap.size := T5.out.lt
  clear hE hx hSl hSO hown hb5 HB4 T4 OM
  go_wp2_with fail
  refine (small_any ns liv us xs gS cpS _ w5 G.out HLV.out HE.out HX.out hK HOW.out hgS).mono ?_
  rintro e w6 ⟨hcase, hb6⟩
  have HB6 := hid (HB5.out.trans (hb6.mono (by omega)))
  have T6 := hid (T5.out.below hb6 hs5)
  have hs6 : w.heap.size < w6.heap.size := T6.out.lt
  clear hb6 HB5 T5
  rcases hcase with ⟨ss, v, rfl, oss, h8s, hn8, hMS⟩ | ⟨rfl, hBig⟩
  · have hn0 : 0 < ss.length := by
      obtain ⟨o9, n9, hM, _⟩ := hMS
      exact numbered_pos hM.num
    obtain ⟨aov, cpv, rfl⟩ := own_slice oss
    obtain ⟨gv9, rfl, _, hgv, hcv9⟩ := own_at' oss hn0
    have OSS := hid oss
    have H8S := hid h8s
    have HMS := hid hMS
    clear oss h8s hMS
    go_wp2_with fail
    refine (plain_any gv9 ss.length cpv _ ss w6 OSS.out H8S.out rfl (by omega) hgv hcv9).mono ?_
    rintro e w7 ⟨v1, v2, V, rfl, hL, hb7⟩
    have HL := hid (hL.mono (show w.heap.size + 1 ≤ w6.heap.size by omega))
    obtain ⟨ao1, cp1, rfl⟩ := own_slice hL.out
    obtain ⟨ao2, cp2, rfl⟩ := own_slice hL.nxt
    have HB7 := hid (HB6.out.trans (hb7.mono (by omega)))
    have T7 := T6.out.below hb7 hs6
    have d0 := T7.c0
    have d1 := T7.c1
    have e0 := T7.f0
    have e1 := T7.f1
    clear hL hb7 T7
    go_wp2_with fail
    refine ret_cells_tmp (cs := [.slice ao1 ss.length cp1, .slice ao2 ss.length cp2]) (v := .int .i64 (0 : Nat)) (b := w.heap.size) Try.results14 ?_ ?_ ?_ ?_ Try.underlying35 rfl Try.machSize ?_
    · rfl
    · rfl
    · rfl
    · exact two_set d0 d1 _ _
    · exact ⟨_, _, 0, rfl, fun h0 => absurd rfl h0, fun _ => Or.inl ⟨rfl, ss, V, ((HL.out.set (show w.heap.size < w.heap.size + 1 by omega) 0 _).set (show w.heap.size < w.heap.size + 1 by omega) 1 _).mono (by omega), H8S.out, hn8, HMS.out⟩, (HB7.out.setCell (p := ⟨w.heap.size, 0, none⟩) (Nat.le_refl _) _).setCell (p := ⟨w.heap.size, 1, none⟩) (Nat.le_refl _) _⟩
  · have HBG := hid hBig
    have d0 := T6.out.c0
    have d1 := T6.out.c1
    have e0 := T6.out.f0
    have e1 := T6.out.f1
    clear hBig
    go_wp2_with fail
    refine ret_cells_tmp (cs := [.slice none 0 0, .slice none 0 0]) (v := .int .i64 (7 : Nat)) (b := w.heap.size) Try.results14 ?_ ?_ ?_ ?_ Try.underlying35 rfl Try.machSize ?_
    · rfl
    · rfl
    · rfl
    · exact two_set d0 d1 _ _
    · exact ⟨_, _, 7, rfl, fun h0 => absurd rfl h0, fun _ => Or.inr ⟨rfl, rfl, rfl, HBG.out⟩, (HB6.out.setCell (p := ⟨w.heap.size, 0, none⟩) (Nat.le_refl _) _).setCell (p := ⟨w.heap.size, 1, none⟩) (Nat.le_refl _) _⟩

theorem watch_any (hm : s.size ≤ maxLen) : Calls Try.prog 14 #[.string s] w (Watched s w) := by
  by_cases h : (parseOf s).1 = 0
  · exact watch_yes s w hm h
  · exact watch_no s w hm h
end

end Go.Proofs.Ytjagijohfkffiab
