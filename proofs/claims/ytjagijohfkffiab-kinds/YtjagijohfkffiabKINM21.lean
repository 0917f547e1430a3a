import Derived.Test.YtjagijohfkffiabKINM07
import Derived.Test.YtjagijohfkffiabKINM20
import Derived.Deep.AppendLies
import Derived.Deep.RegionHeld3
import Derived.Deep.MidRow
import Derived.Deep.WholeRow

/- The walk of the reference's live: a place on a ring is left. -/
namespace Go.Proofs.Ytjagijohfkffiab
open Go.RowKit
set_option linter.unusedVariables false

/-- A row of bools of a call's own, at block g. -/
def BO (w : World) (B g N : Nat) (f : Nat → Bool) : Prop := w.ownsRow B 4 1 (.slice (some ⟨g, 0, none⟩) N N) N (outTo f N N)

theorem BO.fz {w : World} {B g N : Nat} {f : Nat → Bool} (h : BO w B g N f) (i : Nat) : w.frozen? ⟨g, i, none⟩ = false := World.ownsRow.frozenAt h i
theorem BO.set {w : World} {B g N : Nat} {f : Nat → Bool} (h : BO w B g N f) (b : Nat) (v : Bool) : BO (w.setCell ⟨g, b, none⟩ (.bool v)) B g N (upd f b v) := by
  have := (World.ownsRow.stored h b (.bool v)).1
  rw [outTo_upd] at this
  exact this
theorem BO.other {w : World} {B B2 g g2 N N2 : Nat} {f f2 : Nat → Bool} (h : BO w B g N f) (h2 : BO w B2 g2 N2 f2) (hne : g ≠ g2) (b : Nat) (u : Value) : BO (w.setCell ⟨g2, b, none⟩ u) B g N f :=
  World.ownsRow.kept h (World.ownsRow.stored h2 b u).2 (Or.inr (by simpa [Value.ownBlock] using hne))
theorem BO.grown {w w' : World} {B g N : Nat} {f : Nat → Bool} (h : BO w B g N f) (hg : w.grownBy w' none) : BO w' B g N f := World.ownsRow.kept h hg (Or.inr (by simp [Value.ownBlock]))
def cnt (f : Nat → Bool) : Nat → Nat
  | 0 => 0
  | n + 1 => cnt f n + (if f n = true then 1 else 0)
end Go.Proofs.Ytjagijohfkffiab

/- The walk of the reference's at (laid by gen_fat.py). -/
namespace Go.Proofs.Ytjagijohfkffiab
open Go.RowKit
set_option linter.unusedVariables false

theorem cells_put (w : World) (cs : List Value) (t : TypeId) : ∀ j u, cs[j]? = some u → (w.alloc (.cells cs.toArray t)).cell? ((⟨w.heap.size, 0, none⟩ : Addr).add j) = some u := fun j u hj => by
  rw [Addr.add_mid, cell_of_row (w.alloc (.cells cs.toArray t)) w.heap.size (0 + j) cs.toArray t (0, 0) (heap_alloc_last w _)]
  simpa using hj
theorem own_setx' {w : World} {B e s n : Nat} {v : Value} {xs : List Value} (h : w.ownsRow B e s v n xs) (p : Addr) (u : Value) (h2 : v.ownBlock ≠ some p.block) : (w.setCell p u).ownsRow B e s v n xs :=
  h.kept (row := some p.block) ⟨rfl, rfl, rfl, by rw [World.size_setCell]; exact Nat.le_refl _, fun q hq hne => Below.heap_setCell _ _ _ _ (fun e => hne (by rw [e]))⟩ (Or.inr h2)

/-- All blocks but T and two rows are as they were. -/
structure KB (w w' : World) (T : Nat) (r1 r2 : Option Nat) : Prop where
  os : w'.os = w.os
  tape : w'.tape = w.tape
  output : w'.output = w.output
  size : w.heap.size ≤ w'.heap.size
  block : ∀ k, k < w.heap.size → k ≠ T → some k ≠ r1 → some k ≠ r2 → w'.heap[k]? = w.heap[k]?
theorem KB.of_below {w w' : World} {T : Nat} {r1 r2 : Option Nat} (h : Below w.heap.size w w') : KB w w' T r1 r2 := ⟨h.os, h.tape, h.output, h.size, fun k hk _ _ _ => h.block k hk⟩
theorem KB.cell {w w' : World} {T : Nat} {r1 r2 : Option Nat} (h : KB w w' T r1 r2) {p : Addr} (hp : p.block < w.heap.size) (h1 : p.block ≠ T) (h2 : some p.block ≠ r1) (h3 : some p.block ≠ r2) : w'.cell? p = w.cell? p := World.cell?_of_block (h.block _ hp h1 h2 h3)
theorem KB.frozen {w w' : World} {T : Nat} {r1 r2 : Option Nat} (h : KB w w' T r1 r2) {p : Addr} (hp : p.block < w.heap.size) (h1 : p.block ≠ T) (h2 : some p.block ≠ r1) (h3 : some p.block ≠ r2) : w'.frozen? p = w.frozen? p := World.frozen?_of_block (h.block _ hp h1 h2 h3)
theorem own_kb {w w' : World} {T B e s n : Nat} {r1 r2 : Option Nat} {v : Value} {xs : List Value} (h : w.ownsRow B e s v n xs) (f : KB w w' T r1 r2) (h1 : v.ownBlock ≠ some T) (h2 : v.ownBlock = none ∨ v.ownBlock ≠ r1) (h3 : v.ownBlock = none ∨ v.ownBlock ≠ r2) : w'.ownsRow B e s v n xs := by
  refine ⟨h.1, ?_⟩
  rcases h.2 with h0 | ⟨g, cap, cur, ev, hb, hg, r⟩
  · exact Or.inl h0
  · subst ev
    refine Or.inr ⟨g, cap, cur, rfl, hb, ?_, r⟩
    rw [f.block g (heap_lt hg) (fun e => h1 (by rw [← e]; rfl)) (fun e => by
      rcases h2 with h2 | h2
      · simp [Value.ownBlock] at h2
      · exact h2 (by rw [← e]; rfl)) (fun e => by
      rcases h3 with h3 | h3
      · simp [Value.ownBlock] at h3
      · exact h3 (by rw [← e]; rfl))]
    exact hg
theorem below_kb {B0 : Nat} {a w w' : World} {T : Nat} {r1 r2 : Option Nat} (h : Below B0 a w) (f : KB w w' T r1 r2) (hB : B0 ≤ w.heap.size) (h1 : B0 ≤ T) (h2 : ∀ k, r1 = some k → B0 ≤ k) (h3 : ∀ k, r2 = some k → B0 ≤ k) : Below B0 a w' :=
  ⟨f.os.trans h.os, f.tape.trans h.tape, f.output.trans h.output, Nat.le_trans h.size f.size, fun k hk => (f.block k (by omega) (by omega) (fun e => by have := h2 k e.symm; omega) (fun e => by have := h3 k e.symm; omega)).trans (h.block k hk)⟩

def flatRP (rs : List (Nat × Nat)) (M : Nat) : List Value := rs.flatMap fun p => [.slice (some ⟨p.1, 0, none⟩) M M, .slice (some ⟨p.2, 0, none⟩) M M]
/-- The reference's states as they are met, in memory. -/
structure FuM (w : World) (B T M : Nat) (vS vO vN : Value) (rs : List (Nat × Nat)) (fs : List ((Nat → Bool) × (Nat → Bool))) (outs : List Nat) : Prop where
  t : Three w T vS vO vN
  tB : T < B
  len : fs.length = rs.length
  olen : outs.length = rs.length
  st : w.ownsRow B 245 2 vS rs.length (flatRP rs M)
  ou : w.ownsRow B 3 1 vO rs.length (nInts outs)
  row : ∀ (i : Nat) p q, rs[i]? = some p → fs[i]? = some q → w.ownsRow B 4 1 (.slice (some ⟨p.1, 0, none⟩) M M) M (outTo q.1 M M) ∧ w.ownsRow B 4 1 (.slice (some ⟨p.2, 0, none⟩) M M) M (outTo q.2 M M)
theorem FuM.below {w w' : World} {B T M : Nat} {vS vO vN : Value} {rs : List (Nat × Nat)} {fs : List ((Nat → Bool) × (Nat → Bool))} {outs : List Nat} (h : FuM w B T M vS vO vN rs fs outs) (hb : Below w.heap.size w w') : FuM w' B T M vS vO vN rs fs outs :=
  ⟨h.t.below hb h.t.lt, h.tB, h.len, h.olen, own_keeps h.st hb, own_keeps h.ou hb, fun i p q h1 h2 => ⟨own_keeps (h.row i p q h1 h2).1 hb, own_keeps (h.row i p q h1 h2).2 hb⟩⟩
end Go.Proofs.Ytjagijohfkffiab

/- The walks of the sorting's find and add. -/
namespace Go.Proofs.Ytjagijohfkffiab
open Go.RowKit
set_option linter.unusedVariables false

def iv (f : Nat → Int) : List Value := (List.range 8).map fun j => .int .i64 (f j)
theorem iv_get (f : Nat → Int) {j : Nat} (hj : j < 8) : (iv f)[j]? = some (.int .i64 (f j)) := by simp [iv, hj]
theorem run_eqItems_int (d : Nat) (g h : Nat → Int) (w : World) : ∀ is : List Nat, (∀ i ∈ is, i < 8) → (Op.eqItems (d + 1) 3 1 (iv g).toArray (iv h).toArray is).run Try.prog w = .ok (is.all fun j => g j == h j) w
  | [], _ => by simp [Op.eqItems]
  | i :: is, hi => by
    have h0 := hi i (by simp)
    have ih := run_eqItems_int d g h w is (fun j hj => hi j (by simp [hj]))
    have p : ∀ f : Nat → Int, (part 3 (iv f).toArray (i * 1)).run Try.prog w = .ok (.int .i64 (f i)) w := fun f => by
      have := iv_get f h0
      simp [part, Try.isAgg3, this]
    simp only [Op.eqItems, Sem.run_bind, p, Result.andThen_ok, run_equalIn_int w d 3 _ _ _ _ Try.underlying3]
    cases e : (g i == h i)
    · simp [e]
    · simp [e, ih]
theorem run_eq8 (d : Nat) (g h : Nat → Int) (w : World) : (Op.equalIn (d + 1 + 1) 135 (.agg (iv g).toArray) (.agg (iv h).toArray)).run Try.prog w = .ok ((List.range 8).all fun j => g j == h j) w := by
  obtain ⟨i, hi, _⟩ := info_parts Try.infoIntE
  rw [run_equalIn_array w (d + 1) _ _ Try.underlying135 hi]
  have : Try.prog.cellsOf 3 = 1 := by kernel_rfl
  rw [this]
  exact run_eqItems_int d g h w _ (fun j hj => by simpa using hj)
theorem run_eq8' (b0 b1 b2 b3 b4 b5 b6 b7 a0 a1 a2 a3 a4 a5 a6 a7 : Int) (w : World) : (Op.equalIn 9999 135 (.agg #[.int .i64 b0, .int .i64 b1, .int .i64 b2, .int .i64 b3, .int .i64 b4, .int .i64 b5, .int .i64 b6, .int .i64 b7]) (.agg #[.int .i64 a0, .int .i64 a1, .int .i64 a2, .int .i64 a3, .int .i64 a4, .int .i64 a5, .int .i64 a6, .int .i64 a7])).run Try.prog w = .ok (decide ([b0, b1, b2, b3, b4, b5, b6, b7] = [a0, a1, a2, a3, a4, a5, a6, a7])) w := by
  have h := run_eq8 9997 (fun j => [b0, b1, b2, b3, b4, b5, b6, b7].getD j 0) (fun j => [a0, a1, a2, a3, a4, a5, a6, a7].getD j 0) w
  have e : ((List.range 8).all fun j => [b0, b1, b2, b3, b4, b5, b6, b7].getD j 0 == [a0, a1, a2, a3, a4, a5, a6, a7].getD j 0) = decide ([b0, b1, b2, b3, b4, b5, b6, b7] = [a0, a1, a2, a3, a4, a5, a6, a7]) := by
    rw [Bool.eq_iff_iff]
    simp [List.range, List.range.loop]
  rw [e] at h
  exact h

set_option maxHeartbeats 8000000 in
set_option maxRecDepth 100000 in
theorem find_any (S B : Nat) (vK vH : Value) (ss : List St) (o a0 a1 a2 a3 a4 a5 a6 a7 : Int) (w : World) (hT : Two w S vK vH) (ho : w.ownsRow B 137 9 vH ss.length (flatS ss)) (h8 : Eight ss) (hn : ss.length ≤ 8589934592) :
    Calls Try.prog 126 #[.pointer (some ⟨S, 0, none⟩), .agg #[.int .i64 o, .int .i64 a0, .int .i64 a1, .int .i64 a2, .int .i64 a3, .int .i64 a4, .int .i64 a5, .int .i64 a6, .int .i64 a7]] w fun e w' => ∃ j : Nat, e = .returned (.int .i64 (j : Nat)) ∧ (ss[j]? = some ⟨o, [a0, a1, a2, a3, a4, a5, a6, a7]⟩ ∨ (j = ss.length ∧ ∀ s ∈ ss, s ≠ ⟨o, [a0, a1, a2, a3, a4, a5, a6, a7]⟩)) ∧ Below w.heap.size w w' := by
  have hS := hT.lt
  have c1 := hT.c1
  have HT := hid hT
  have HO := hid ho
  have H8 := hid h8
  obtain ⟨aoH, cpH, rfl⟩ := own_slice ho
  clear hT ho h8
  generalize hnE : ss.length = n at *
  have HNE := hid hnE
  clear hnE
  go_enter Try.func126, Try.ntmps126
  go_wp2_with fail
  have ba := hid ((Below.refl w.heap.size w).alloc (Nat.le_refl _) (.cells #[.int .i64 o, .int .i64 a0, .int .i64 a1, .int .i64 a2, .int .i64 a3, .int .i64 a4, .int .i64 a5, .int .i64 a6, .int .i64 a7] 137))
  have NA := hid (cells_put w [.int .i64 o, .int .i64 a0, .int .i64 a1, .int .i64 a2, .int .i64 a3, .int .i64 a4, .int .i64 a5, .int .i64 a6, .int .i64 a7] 137)
  go_loopw [12] (fun i wq => ∃ k : Nat, k ≤ n ∧ i = .int .i64 k ∧ Hid (∀ i s, i < k → ss[i]? = some s → s ≠ ⟨o, [a0, a1, a2, a3, a4, a5, a6, a7]⟩) ∧ Hid (Below (w.heap.size + 1) (w.alloc (.cells #[.int .i64 o, .int .i64 a0, .int .i64 a1, .int .i64 a2, .int .i64 a3, .int .i64 a4, .int .i64 a5, .int .i64 a6, .int .i64 a7] 137)) wq)) (fun i _ => n - (intOf i).toNat)
  case atStart => exact ⟨0, Nat.zero_le _, rfl, hid (fun i s h => by omega), hid (Below.refl _ _)⟩
  case round =>
    obtain ⟨k, hk, rfl, HA, HB⟩ := hrel
    rename World => W0
    have HB0 := hid (ba.out.trans (HB.out.mono (by omega)))
    have hsz : w.heap.size < W0.heap.size := by have := HB.out.size; simp at this; omega
    by_cases hlk : k < n
    · have hown := HO.out
      obtain ⟨gH, rfl, hgH, hgHs, hcH⟩ := own_at' hown (by omega)
      obtain ⟨⟨p, nx⟩, hs⟩ : ∃ s, ss[k]? = some s := ⟨ss[k]'(by rw [HNE.out]; exact hlk), List.getElem?_eq_getElem (by rw [HNE.out]; exact hlk)⟩
      have hl8 := H8.out _ (List.mem_of_getElem? hs)
      obtain ⟨b0, b1, b2, b3, b4, b5, b6, b7, rfl⟩ := eight_cases hl8
      have hat : stAt ss k = ⟨p, [b0, b1, b2, b3, b4, b5, b6, b7]⟩ := by simp [stAt, List.getD, hs]
      have cl : ∀ j u, j < 9 → (stCells ⟨p, [b0, b1, b2, b3, b4, b5, b6, b7]⟩)[j]? = some u → W0.cell? ⟨gH, k * 9 + j, none⟩ = some u := fun j u hj hu => by
        rw [HB0.out.cell (p := ⟨gH, k * 9 + j, none⟩) hgHs, hown.cellAt (k * 9 + j) (by omega), flatS_get H8.out (by rw [HNE.out]; exact hlk) hj, hat, hu]
      have y0 : W0.cell? ⟨gH, k * 9, none⟩ = some (.int .i64 p) := cl 0 _ (by omega) rfl
      have y1 := cl 1 _ (by omega) rfl
      have y2 := cl 2 _ (by omega) rfl
      have y3 := cl 3 _ (by omega) rfl
      have y4 := cl 4 _ (by omega) rfl
      have y5 := cl 5 _ (by omega) rfl
      have y6 := cl 6 _ (by omega) rfl
      have y7 := cl 7 _ (by omega) rfl
      have y8 := cl 8 _ (by omega) rfl
      have al : ∀ j u, [Value.int .i64 o, .int .i64 a0, .int .i64 a1, .int .i64 a2, .int .i64 a3, .int .i64 a4, .int .i64 a5, .int .i64 a6, .int .i64 a7][j]? = some u → W0.cell? ⟨w.heap.size, j, none⟩ = some u := fun j u hu => by
        rw [HB.out.cell (p := ⟨w.heap.size, j, none⟩) (by show w.heap.size < w.heap.size + 1; omega)]
        have := NA.out j u hu
        rwa [Addr.add_mid, Nat.zero_add] at this
      have x0 := al 0 _ rfl
      have x1 := al 1 _ rfl
      have x2 := al 2 _ rfl
      have x3 := al 3 _ rfl
      have x4 := al 4 _ rfl
      have x5 := al 5 _ rfl
      have x6 := al 6 _ rfl
      have x7 := al 7 _ rfl
      have x8 := al 8 _ rfl
      have HSK := hid hs
      clear cl al hs hat hown
      have EQ := fun W => run_eq8' b0 b1 b2 b3 b4 b5 b6 b7 a0 a1 a2 a3 a4 a5 a6 a7 W
      by_cases hp : p = o
      · by_cases hq : [b0, b1, b2, b3, b4, b5, b6, b7] = [a0, a1, a2, a3, a4, a5, a6, a7]
        · have HR : Hid (ss[k]? = some ⟨o, [a0, a1, a2, a3, a4, a5, a6, a7]⟩) := hid (by rw [HSK.out, hp, hq])
          rw [decide_eq_true hq] at EQ
          rw [hp] at y0
          clear hq hp
          go_wp2_with fail
          go_ret
          exact ⟨k, rfl, Or.inl HR.out, HB0.out.alloc (by omega) _⟩
        · have HN : Hid (∀ i s, i < k + 1 → ss[i]? = some s → s ≠ ⟨o, [a0, a1, a2, a3, a4, a5, a6, a7]⟩) := hid (fun i s hi hs => by
            by_cases c : i = k
            · subst c
              rw [HSK.out] at hs
              cases hs
              intro e
              injection e with e1 e2
              exact hq e2
            · exact HA.out i s (by omega) hs)
          rw [decide_eq_false hq] at EQ
          rw [hp] at y0
          clear hq
          subst hp
          go_wp2_with fail
          go_roundw
          case rel => exact ⟨k + 1, by omega, by go_num, HN, hid (HB.out.alloc (by have := HB.out.size; simp at this; omega) _)⟩
          case measure => simp [intOf]; omega
      · have HN : Hid (∀ i s, i < k + 1 → ss[i]? = some s → s ≠ ⟨o, [a0, a1, a2, a3, a4, a5, a6, a7]⟩) := hid (fun i s hi hs => by
          by_cases c : i = k
          · subst c
            rw [HSK.out] at hs
            cases hs
            intro e
            injection e with e1 e2
            exact hp e1
          · exact HA.out i s (by omega) hs)
        go_wp2_with fail
        go_roundw
        case rel => exact ⟨k + 1, by omega, by go_num, HN, hid (HB.out.alloc (by have := HB.out.size; simp at this; omega) _)⟩
        case measure => simp [intOf]; omega
    · obtain rfl : k = n := by omega
      have c2 := (HB0.out.cell (p := ⟨S, 1, none⟩) hS).trans c1
      go_wp2_with fail
      go_ret
      exact ⟨k, rfl, Or.inr ⟨rfl, fun s hs => by
        obtain ⟨i, hi, e⟩ := List.getElem_of_mem hs
        exact HA.out i s (by rw [← HNE.out]; exact hi) (by rw [List.getElem?_eq_getElem hi, e])⟩, HB0.out⟩

end Go.Proofs.Ytjagijohfkffiab
