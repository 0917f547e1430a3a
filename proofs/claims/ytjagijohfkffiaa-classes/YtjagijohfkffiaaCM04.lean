import Derived.Test.YtjagijohfkffiaaCM02
import Derived.Test.YtjagijohfkffiaaCM03
import Derived.Outline

/- The reference's parts in memory. -/
namespace Go.Proofs.Ytjagijohfkffiaa
open Go.RowKit
set_option linter.unusedVariables false

def ptrTo1 (b : Nat) : Value := .pointer (some ⟨b, 0, none⟩)
def lptr (bs : List Nat) (n : Nd) : Option Addr := if leafB n.op then none else some ⟨bs.getD n.l 0, 0, none⟩
def rptr (bs : List Nat) (n : Nd) : Option Addr := if twoB n.op then some ⟨bs.getD n.r 0, 0, none⟩ else none
/-- The block of part i. -/
def partObj (bs : List Nat) (i : Nat) (n : Nd) : Obj := .cells #[.int .u8 n.op, .pointer (lptr bs n), .pointer (rptr bs n), .int .i64 i] 165 (0, 0)

theorem World.cell?_alloc_here (w : World) (c : Array Value) (t : TypeId) (n i : Nat) (h : n = w.heap.size) : (w.alloc (.cells c t)).cell? ⟨n, i, none⟩ = c[i]? := by
  subst h; simp

/-- The formula at block F: its nodes ns, their parts' blocks bs. -/
structure Fm (w : World) (F : Nat) (ns : List Nd) (bs : List Nat) : Prop where
  c0 : ∃ ao cap, w.cell? ⟨F, 0, none⟩ = some (.slice ao ns.length cap) ∧ w.ownsRow (F + 1) 114 1 (.slice ao ns.length cap) ns.length (bs.map ptrTo1)
  f0 : w.frozen? ⟨F, 0, none⟩ = false
  len : bs.length = ns.length
  wf : Wf ns
  parts : ∀ (i : Nat) (n : Nd), ns[i]? = some n → ∃ b, bs[i]? = some b ∧ F < b ∧ w.heap[b]? = some (partObj bs i n)

/-- Blocks of cells of other types than the row's stay. -/
def Kp (F : Nat) (w w' : World) : Prop := ∀ (q : Nat) (c : Array Value) (T : TypeId), w.heap[q]? = some (.cells c T (0, 0)) → T ≠ 114 → q ≠ F → w'.heap[q]? = some (.cells c T (0, 0))

theorem heap_lt {w : World} {q : Nat} {o : Obj} (h : w.heap[q]? = some o) : q < w.heap.size := (Array.getElem?_eq_some_iff.1 h).1

theorem Kp.refl (F : Nat) (w : World) : Kp F w w := fun _ _ _ h _ _ => h
theorem Kp.trans {F : Nat} {a b c : World} (h : Kp F a b) (k : Kp F b c) : Kp F a c := fun q x T h1 h2 h3 => k q x T (h q x T h1 h2 h3) h2 h3
theorem Kp.alloc (F : Nat) (w : World) (o : Obj) : Kp F w (w.alloc o) := fun q c T h _ _ => by rw [Below.heap_alloc w o q (heap_lt h)]; exact h
theorem Kp.drew {F : Nat} {a w : World} (h : Kp F a w) : Kp F a w.drew := h
/-- A store into a block that came later, or into F. -/
theorem Kp.set {F : Nat} {a w : World} (h : Kp F a w) {P : Nat} (hP : a.heap.size ≤ P ∨ P = F) (j : Nat) (v : Value) : Kp F a (w.setCell ⟨P, j, none⟩ v) := fun q c T h1 h2 h3 => by
  have := heap_lt h1
  rw [Below.heap_setCell _ _ _ _ (by show q ≠ P; omega)]
  exact h q c T h1 h2 h3
theorem Kp.grown {F : Nat} {w w' : World} {v : Value} {n : Nat} {xs : List Value} (own : w.ownsRow (F + 1) 114 1 v n xs) (hg : w.grownBy w' v.ownBlock) : Kp F w w' := fun q c T h1 h2 h3 => by
  rw [hg.block q (heap_lt h1) (fun e => ?_)]
  · exact h1
  · rcases own.2 with ⟨hv, _⟩ | ⟨g, cap, cur, hv, _, hh, _⟩
    · rw [hv] at e; simp [Value.ownBlock] at e
    · rw [hv] at e
      simp [Value.ownBlock] at e
      subst e
      rw [h1] at hh
      simp at hh
      exact h2 hh.2

theorem own_set {w : World} {B e : Nat} {size : Nat} {v : Value} {n : Nat} {xs : List Value} (own : w.ownsRow B e size v n xs) {P : Nat} {o : Obj} (hP : w.heap[P]? = some o) (ho : ∀ c, o ≠ .cells c e (0, 0)) (j : Nat) (u : Value) :
    (w.setCell ⟨P, j, none⟩ u).ownsRow B e size v n xs := by
  obtain ⟨h1, h2⟩ := own
  refine ⟨h1, ?_⟩
  rcases h2 with h2 | ⟨g, cap, cur, hv, hb, hh, r⟩
  · exact Or.inl h2
  · refine Or.inr ⟨g, cap, cur, hv, hb, ?_, r⟩
    rw [Below.heap_setCell _ _ _ _ ?_]
    · exact hh
    · intro e'
      have e2 : g = P := e'
      subst e2
      rw [hh] at hP
      exact ho _ (Option.some.inj hP).symm

section
variable {w : World} {F : Nat} {ns : List Nd} {bs : List Nat}

theorem Fm.ltF (h : Fm w F ns bs) : F < w.heap.size := by
  obtain ⟨_, _, c, _⟩ := h.c0
  exact World.block_lt_of_cell? w ⟨F, 0, none⟩ c

theorem Fm.own (h : Fm w F ns bs) {v : Value} (hc : w.cell? ⟨F, 0, none⟩ = some v) : (∃ ao cap, v = .slice ao ns.length cap) ∧ w.ownsRow (F + 1) 114 1 v ns.length (bs.map ptrTo1) := by
  obtain ⟨ao, cap, c, own⟩ := h.c0
  rw [c] at hc
  cases hc
  exact ⟨⟨_, _, rfl⟩, own⟩

theorem Fm.lt (h : Fm w F ns bs) : ∀ b ∈ bs, b < w.heap.size ∧ F < b := by
  intro b hb
  obtain ⟨i, hi, rfl⟩ := List.getElem_of_mem hb
  obtain ⟨b', e, hF, hh⟩ := h.parts i (ns[i]'(by rw [← h.len]; exact hi)) (by simp)
  rw [List.getElem?_eq_getElem hi] at e
  cases e
  exact ⟨heap_lt hh, hF⟩

theorem Fm.alloc (h : Fm w F ns bs) (o : Obj) : Fm (w.alloc o) F ns bs := by
  obtain ⟨ao, cap, c, own⟩ := h.c0
  refine ⟨⟨ao, cap, ?_, own.alloc o⟩, ?_, h.len, h.wf, ?_⟩
  · rw [World.cell?_alloc_past _ _ _ h.ltF]; exact c
  · rw [World.frozen?_alloc_past _ _ _ h.ltF]; exact h.f0
  · intro i n hn
    obtain ⟨b, e, hF, hh⟩ := h.parts i n hn
    exact ⟨b, e, hF, by rw [Below.heap_alloc _ _ _ (heap_lt hh)]; exact hh⟩

theorem Fm.drew (h : Fm w F ns bs) : Fm w.drew F ns bs := ⟨h.c0, h.f0, h.len, h.wf, h.parts⟩

/-- A store into a part that is not yet listed. -/
theorem Fm.set (h : Fm w F ns bs) {P : Nat} (hP : P ∉ bs) (hF : P ≠ F) {o : Obj} (ho : w.heap[P]? = some o) (hne : ∀ c, o ≠ .cells c 114 (0, 0)) (j : Nat) (v : Value) : Fm (w.setCell ⟨P, j, none⟩ v) F ns bs := by
  obtain ⟨ao, cap, c, own⟩ := h.c0
  refine ⟨⟨ao, cap, ?_, own_set own ho hne j v⟩, ?_, h.len, h.wf, ?_⟩
  · rw [World.cell?_setCell_other _ _ _ _ (fun e => hF (congrArg Addr.block e))]; exact c
  · rw [World.frozen?_setCell]; exact h.f0
  · intro i n hn
    obtain ⟨b, e, hF, hh⟩ := h.parts i n hn
    refine ⟨b, e, hF, ?_⟩
    rw [Below.heap_setCell _ _ _ _ ?_]
    · exact hh
    · intro e'
      have e2 : b = P := e'
      subst e2
      exact hP (List.mem_of_getElem? e)

theorem getD_snoc {bs : List Nat} {i P : Nat} (h : i < bs.length) : (bs ++ [P]).getD i 0 = bs.getD i 0 := by
  simp [List.getD, List.getElem?_append_left h]

theorem partObj_snoc {ns : List Nd} {bs : List Nat} (hw : Wf ns) (hl : bs.length = ns.length) {i : Nat} {n : Nd} (hn : ns[i]? = some n) (P : Nat) : partObj (bs ++ [P]) i n = partObj bs i n := by
  have hi := (List.getElem?_eq_some_iff.1 hn).1
  obtain ⟨h1, h2⟩ := hw i n hn
  have e1 : lptr (bs ++ [P]) n = lptr bs n := by
    unfold lptr
    cases hb : leafB n.op with
    | true => rfl
    | false => rw [getD_snoc (by have := h1 hb; omega)]
  have e2 : rptr (bs ++ [P]) n = rptr bs n := by
    unfold rptr
    cases hb : twoB n.op with
    | false => rfl
    | true => rw [getD_snoc (by have := h2 hb; omega)]
  unfold partObj
  rw [e1, e2]

/-- A part is listed: the row has grown, its value is stored. -/
theorem Fm.push (h : Fm w F ns bs) {w' : World} (hk : Kp F w w') (hb : Below (F + 1) w w') {P : Nat} (hPF : F < P) (n : Nd) (h1 : leafB n.op = false → n.l < ns.length) (h2 : twoB n.op = true → n.r < ns.length)
    (hP : w.heap[P]? = some (partObj bs ns.length n)) (ao : Option Addr) (cap : Nat)
    (own : w'.ownsRow (F + 1) 114 1 (.slice ao (ns.length + 1) cap) (ns.length + 1) (bs.map ptrTo1 ++ [ptrTo1 P])) :
    Fm (w'.setCell ⟨F, 0, none⟩ (.slice ao (ns.length + 1) cap)) F (ns ++ [n]) (bs ++ [P]) := by
  obtain ⟨_, _, c, _⟩ := h.c0
  have hw := h.wf.snoc n h1 h2
  refine ⟨⟨ao, cap, ?_, ?_⟩, ?_, by simp [h.len], hw, ?_⟩
  · rw [List.length_append, List.length_singleton]
    exact World.cell?_setCell_same _ _ _ ((hb.cell (p := ⟨F, 0, none⟩) (Nat.lt_succ_self _)).trans c)
  · rw [List.length_append, List.length_singleton, List.map_append]
    exact ownsRow_setCell_below own (by simp) _
  · rw [World.frozen?_setCell, hb.frozen (p := ⟨F, 0, none⟩) (Nat.lt_succ_self _)]; exact h.f0
  · intro i m hm
    by_cases hi : i < ns.length
    · rw [List.getElem?_append_left hi] at hm
      obtain ⟨b, e, hF, hh⟩ := h.parts i m hm
      refine ⟨b, by rw [List.getElem?_append_left (by rw [h.len]; exact hi)]; exact e, hF, ?_⟩
      rw [Below.heap_setCell _ _ _ _ (by show b ≠ F; omega), partObj_snoc h.wf h.len hm]
      exact hk b _ _ hh (by decide) (by omega)
    · have hi2 : i = ns.length := by
        have := (List.getElem?_eq_some_iff.1 hm).1
        simp at this; omega
      subst hi2
      simp at hm
      subst hm
      refine ⟨P, by rw [← h.len]; simp, hPF, ?_⟩
      rw [Below.heap_setCell _ _ _ _ (by show P ≠ F; omega), show partObj (bs ++ [P]) ns.length n = partObj bs ns.length n from ?_]
      · exact hk P _ _ hP (by decide) (by omega)
      · have e1 : lptr (bs ++ [P]) n = lptr bs n := by
          unfold lptr
          cases hb : leafB n.op with
          | true => rfl
          | false => rw [getD_snoc (by have := h1 hb; rw [h.len]; omega)]
        have e2 : rptr (bs ++ [P]) n = rptr bs n := by
          unfold rptr
          cases hb : twoB n.op with
          | false => rfl
          | true => rw [getD_snoc (by have := h2 hb; rw [h.len]; omega)]
        unfold partObj
        rw [e1, e2]
end

end Go.Proofs.Ytjagijohfkffiaa

/- The walks of sweep and fill. -/
namespace Go.Proofs.Ytjagijohfkffiaa
open Go.RowKit
set_option linter.unusedVariables false

def flatP (ps : List (Nat × Nat)) : List Value := ps.flatMap fun p => [.int .i64 p.1, .int .i64 p.2]
theorem flatP_snoc (ps : List (Nat × Nat)) (p : Nat × Nat) : flatP (ps ++ [p]) = flatP ps ++ [.int .i64 p.1, .int .i64 p.2] := by simp [flatP]
theorem flatP_length (ps : List (Nat × Nat)) : (flatP ps).length = ps.length * 2 := by
  induction ps with
  | nil => rfl
  | cons n ns ih => simp only [flatP, List.flatMap_cons, List.length_append, List.length_cons, List.length_nil] at ih ⊢; omega
theorem flatP_get (ps : List (Nat × Nat)) (i : Nat) (hi : i < ps.length) : (flatP ps)[i * 2]? = some (.int .i64 (letAt ps i)) ∧ (flatP ps)[i * 2 + 1]? = some (.int .i64 (heldAt ps i)) := by
  induction ps generalizing i with
  | nil => simp at hi
  | cons p ps ih =>
    cases i with
    | zero => simp [flatP, letAt, heldAt]
    | succ i =>
      have := ih i (by simpa using hi)
      rw [letAt_cons, heldAt_cons, show flatP (p :: ps) = [.int .i64 p.1, .int .i64 p.2] ++ flatP ps by simp [flatP]]
      rw [List.getElem?_append_right (by simp; omega), List.getElem?_append_right (by simp; omega)]
      simpa [show (i + 1) * 2 - 2 = i * 2 by omega, show (i + 1) * 2 + 1 - 2 = i * 2 + 1 by omega] using this
theorem flatP_set (ps : List (Nat × Nat)) (i : Nat) (hi : i < ps.length) (x S : Nat) : ((flatP ps).set (i * 2) (.int .i64 x)).set (i * 2 + 1) (.int .i64 S) = flatP (ps.set i (x, S)) := by
  induction ps generalizing i with
  | nil => simp at hi
  | cons p ps ih =>
    cases i with
    | zero => simp [flatP]
    | succ i =>
      have := ih i (by simpa using hi)
      rw [show flatP (p :: ps) = .int .i64 p.1 :: .int .i64 p.2 :: flatP ps by simp [flatP], show (i + 1) * 2 = i * 2 + 1 + 1 by omega]
      simp only [List.set_cons_succ]
      rw [this]
      simp [flatP]

/-- The table at block T. -/
structure Tb (w : World) (T back : Nat) (ps : List (Nat × Nat)) : Prop where
  c0 : ∃ ao cap, w.cell? ⟨T, 0, none⟩ = some (.slice ao ps.length cap) ∧ w.ownsRow (T + 1) 121 2 (.slice ao ps.length cap) ps.length (flatP ps)
  c1 : w.cell? ⟨T, 1, none⟩ = some (.int .i64 back)
  f0 : w.frozen? ⟨T, 0, none⟩ = false

/-- Blocks of cells of other types than the places' stay. -/
def KpT (w w' : World) : Prop := ∀ (q : Nat) (c : Array Value) (Ty : TypeId) (z : Nat × Nat), w.heap[q]? = some (.cells c Ty z) → Ty ≠ 121 → w'.heap[q]? = some (.cells c Ty z)

theorem KpT.refl (w : World) : KpT w w := fun _ _ _ _ h _ => h
theorem KpT.trans {a b c : World} (h : KpT a b) (k : KpT b c) : KpT a c := fun q x T z h1 h2 => k q x T z (h q x T z h1 h2) h2
theorem KpT.of_below {w w' : World} (h : Below w.heap.size w w') : KpT w w' := fun q c Ty z h1 _ => by
  rw [h.block q (Array.getElem?_eq_some_iff.1 h1).1]; exact h1
theorem KpT.drewN {a w : World} (h : KpT a w) (n : Nat) : KpT a (w.drewN n) := h

theorem Tb.lt {w : World} {T back : Nat} {ps : List (Nat × Nat)} (h : Tb w T back ps) : T < w.heap.size := World.block_lt_of_cell? w ⟨T, 1, none⟩ h.c1

theorem Tb.row {w : World} {T back : Nat} {ps : List (Nat × Nat)} (h : Tb w T back ps) (hn : 0 < ps.length) : ∃ g cap, w.cell? ⟨T, 0, none⟩ = some (.slice (some ⟨g, 0, none⟩) ps.length cap) ∧ w.ownsRow (T + 1) 121 2 (.slice (some ⟨g, 0, none⟩) ps.length cap) ps.length (flatP ps) ∧ T < g ∧ g < w.heap.size ∧ ps.length ≤ cap := by
  obtain ⟨ao, cap, c, own⟩ := h.c0
  rcases own.2 with ⟨e, h0⟩ | ⟨g, cap', cur, e, hb, hh, hc, _⟩
  · omega
  · cases e
    exact ⟨g, cap, c, own, by omega, (Array.getElem?_eq_some_iff.1 hh).1, hc⟩

/-- The table stays behind whatever leaves all old blocks. -/
theorem Tb.below {w w' : World} {T back : Nat} {ps : List (Nat × Nat)} (h : Tb w T back ps) (hb : Below w.heap.size w w') : Tb w' T back ps := by
  obtain ⟨ao, cap, c, own⟩ := h.c0
  refine ⟨⟨ao, cap, ?_, ?_⟩, ?_, ?_⟩
  · rw [hb.cell h.lt]; exact c
  · exact own.kept (row := none) ⟨hb.os, hb.tape, hb.output, hb.size, fun k hk _ => hb.block k hk⟩ (by cases hv : (Value.slice ao ps.length cap).ownBlock <;> simp)
  · rw [hb.cell h.lt]; exact h.c1
  · rw [hb.frozen h.lt]; exact h.f0

theorem KpT.set {a w : World} (h : KpT a w) {P : Nat} (hP : a.heap.size ≤ P ∨ ∃ c z, a.heap[P]? = some (.cells c 121 z)) (j : Nat) (v : Value) : KpT a (w.setCell ⟨P, j, none⟩ v) := fun q c Ty z h1 h2 => by
  have hq := (Array.getElem?_eq_some_iff.1 h1).1
  have : q ≠ P := by
    rcases hP with hP | ⟨c', z', hP⟩
    · omega
    · intro e
      subst e
      rw [h1] at hP
      simp at hP
      exact h2 hP.2.1
  rw [Below.heap_setCell _ _ _ _ this]
  exact h q c Ty z h1 h2

/-- A place is written. -/
theorem tb_put {w : World} {T back i g cap n x S : Nat} {ps : List (Nat × Nat)} (ht : Tb w T back ps) (hi : i < ps.length) (hn : ps.length = n) (hc : w.cell? ⟨T, 0, none⟩ = some (.slice (some ⟨g, 0, none⟩) n cap)) :
    Tb ((w.setCell ⟨g, i * 2, none⟩ (.int .i64 x)).setCell ⟨g, i * 2 + 1, none⟩ (.int .i64 S)) T back (ps.set i (x, S)) ∧ KpT w ((w.setCell ⟨g, i * 2, none⟩ (.int .i64 x)).setCell ⟨g, i * 2 + 1, none⟩ (.int .i64 S)) ∧ Below (T + 1) w ((w.setCell ⟨g, i * 2, none⟩ (.int .i64 x)).setCell ⟨g, i * 2 + 1, none⟩ (.int .i64 S)) := by
  subst hn
  obtain ⟨g', cap', c, own, hTg, _, _⟩ := ht.row (by omega)
  rw [hc] at c
  cases c
  have o1 := (own.stored (i * 2) (.int .i64 x)).1
  have o2 := (o1.stored (i * 2 + 1) (.int .i64 S)).1
  rw [flatP_set ps i hi] at o2
  have ne : ∀ j k, (⟨g, j, none⟩ : Addr) ≠ ⟨T, k, none⟩ := fun j k e => by have := congrArg Addr.block e; simp at this; omega
  have hrow : ∃ c z, w.heap[g]? = some (.cells c 121 z) := by
    rcases own.2 with ⟨e, _⟩ | ⟨g', cap', cur, e, _, hh, _⟩
    · cases e
    · cases e; exact ⟨_, _, hh⟩
  refine ⟨⟨⟨some ⟨g, 0, none⟩, cap, ?_, ?_⟩, ?_, ?_⟩, ?_, ?_⟩
  · rw [World.cell?_setCell_other _ _ _ _ (ne _ _), World.cell?_setCell_other _ _ _ _ (ne _ _), List.length_set]; exact hc
  · rw [List.length_set]; exact o2
  · rw [World.cell?_setCell_other _ _ _ _ (ne _ _), World.cell?_setCell_other _ _ _ _ (ne _ _)]; exact ht.c1
  · rw [World.frozen?_setCell, World.frozen?_setCell]; exact ht.f0
  · exact ((KpT.refl w).set (Or.inr hrow) _ _).set (Or.inr hrow) _ _
  · exact ((Below.refl _ _).setCell (p := ⟨g, i * 2, none⟩) hTg _).setCell (p := ⟨g, i * 2 + 1, none⟩) hTg _

theorem Tb.drewN {w : World} {T back : Nat} {ps : List (Nat × Nat)} (h : Tb w T back ps) (m : Nat) : Tb (w.drewN m) T back ps := ⟨h.c0, h.c1, h.f0⟩

theorem set_sweep (n : Nd) (k N : Nat) (ps : List (Nat × Nat)) (i : Nat) (hi : i < ps.length) :
    (ps.take (i + 1) ++ (sweepL n k N (ps.drop (i + 1))).1).set i (letAt ps i, newHeld n k (letAt ps i, heldAt ps i) (sweepL n k N (ps.drop (i + 1))).2) = ps.take i ++ (sweepL n k N (ps.drop i)).1 := by
  have e : ps.drop i = (letAt ps i, heldAt ps i) :: ps.drop (i + 1) := by
    have h1 : letAt ps i = ps[i].1 := by simp [letAt, List.getD, List.getElem?_eq_getElem hi]
    have h2 : heldAt ps i = ps[i].2 := by simp [heldAt, List.getD, List.getElem?_eq_getElem hi]
    rw [h1, h2]
    exact List.drop_eq_getElem_cons hi
  rw [e]
  simp only [sweepL]
  rw [List.take_succ_eq_append_getElem hi, List.append_assoc, List.set_append_right _ _ (by simp; omega)]
  simp [show min i ps.length = i by omega]
theorem head_sweep (n : Nd) (k N : Nat) (ps : List (Nat × Nat)) (i : Nat) (hi : i < ps.length) : (sweepL n k N (ps.drop i)).2 = newHeld n k (letAt ps i, heldAt ps i) (sweepL n k N (ps.drop (i + 1))).2 := by
  have e : ps.drop i = (letAt ps i, heldAt ps i) :: ps.drop (i + 1) := by
    have h1 : letAt ps i = ps[i].1 := by simp [letAt, List.getD, List.getElem?_eq_getElem hi]
    have h2 : heldAt ps i = ps[i].2 := by simp [heldAt, List.getD, List.getElem?_eq_getElem hi]
    rw [h1, h2]
    exact List.drop_eq_getElem_cons hi
  rw [e]; simp [sweepL]
theorem at_take (n : Nd) (k N : Nat) (ps : List (Nat × Nat)) (i : Nat) (hi : i < ps.length) : letAt (ps.take (i + 1) ++ (sweepL n k N (ps.drop (i + 1))).1) i = letAt ps i ∧ heldAt (ps.take (i + 1) ++ (sweepL n k N (ps.drop (i + 1))).1) i = heldAt ps i := by
  simp only [letAt, heldAt, List.getD]
  rw [List.getElem?_append_left (by simp; omega), List.getElem?_take_of_lt (by omega)]
  exact ⟨rfl, rfl⟩
theorem cur_len (n : Nd) (k N : Nat) (ps : List (Nat × Nat)) (j : Nat) (hj : j ≤ ps.length) : (ps.take j ++ (sweepL n k N (ps.drop j)).1).length = ps.length := by
  rw [List.length_append, sweepL_len]; simp; omega
theorem head_lt (n : Nd) (k N : Nat) (ps : List (Nat × Nat)) (hk : k < 8) (hf : Fine ps) (hN : N < 256) (j : Nat) : (sweepL n k N (ps.drop j)).2 < 256 := by
  rw [sweepL_head]
  split
  · have : Fine (ps.drop j) := fun i => by have := hf (j + i); simpa [letAt, heldAt, List.getD, List.getElem?_drop] using this
    exact (sweepL_fine hk this 0).2
  · exact hN

set_option maxHeartbeats 1600000 in
theorem sweep_core (N T back k : Nat) (n : Nd) (ps : List (Nat × Nat)) (w : World) (hNe : heldAt ps back = N) (ht : Tb w T back ps) (hf : Fine ps) (hb : back < ps.length) (hlen : ps.length ≤ 80) (hk : k < 8) (hl : n.l < 8) (hr : n.r < 8) :
    Calls Try.prog 107 #[.pointer (some ⟨T, 0, none⟩), ndV n, .int .i64 k] w fun e w' => e = .returned (.tuple #[]) ∧ Tb w' T back (sweepL n k N ps).1 ∧ Below T w w' ∧ KpT w w' := by
  obtain ⟨g, cap, c0, own, hTg, hg, hcap⟩ := ht.row (by omega)
  have c1 := ht.c1
  have hT := ht.lt
  have hd : decide ((back : Int) < 0) = false := by simp
  have hd2 : decide ((ps.length : Int) ≤ (back : Int)) = false := by simp; omega
  have hd3 : decide (ps.length ≤ back) = false := by simp; omega
  have x1 := (own.cellAt (back * 2 + 1) (by omega)).trans (flatP_get ps back hb).2
  have hN := (hf back).2
  rw [hNe] at x1 hN
  clear hNe
  unfold ndV
  go_enter Try.func107, Try.ntmps107
  go_wp2
  go_quiet (fail)
  go_wp2
  go_quiet (fail)
  go_wp2
  clear hd hd2 hd3 x1 c0 c1 own
  go_loopw [6, 7] (fun nx i wr => ∃ j : Nat, j ≤ ps.length ∧ i = .int .i64 ((j : Int) - 1) ∧ nx = .int .i64 ((sweepL n k N (ps.drop j)).2 : Nat) ∧ Tb wr T back (ps.take j ++ (sweepL n k N (ps.drop j)).1) ∧ Below T w wr ∧ KpT w wr ∧ wr.heap[w.heap.size]? = some (.cells #[.int .u8 n.op, .int .i64 n.l, .int .i64 n.r] 123)) (fun _ i _ => (intOf i + 1).toNat)
  case atStart =>
    refine ⟨ps.length, Nat.le_refl _, rfl, by simp [sweepL], ?_, ?_, ?_, ?_⟩
    · rw [List.take_length, List.drop_length]
      simp only [sweepL, List.append_nil]
      exact (ht.below ((Below.refl _ _).alloc (Nat.le_refl _) _)).drewN _
    · exact below_drewN ((Below.refl _ _).alloc (by omega) _) _
    · exact (KpT.of_below ((Below.refl _ _).alloc (Nat.le_refl _) _)).drewN _
    · exact heap_alloc_new _ _
  case round =>
    obtain ⟨j, hj, rfl, rfl, htr, hbr, hkr, hbox⟩ := hrel
    cases j with
    | zero =>
      go_wp2
      go_end0
      refine ⟨rfl, ?_, hbr, hkr⟩
      simpa using htr
    | succ i =>
      have hcl := cur_len n k N ps (i + 1) hj
      obtain ⟨g1, cap1, d0, own1, hTg1, hg1, hcap1⟩ := htr.row (by omega)
      have ha := at_take n k N ps i (by omega)
      have y := flatP_get (ps.take (i + 1) ++ (sweepL n k N (ps.drop (i + 1))).1) i (by omega)
      rw [ha.1, ha.2] at y
      have y1 := (own1.cellAt (i * 2) (by omega)).trans y.1
      have y2 := (own1.cellAt (i * 2 + 1) (by omega)).trans y.2
      have z1 := own1.frozenAt (i * 2)
      have z2 := own1.frozenAt (i * 2 + 1)
      rw [hcl] at d0 hcap1
      have HA := hid (set_sweep n k N ps i (by omega))
      have HH := hid (head_sweep n k N ps i (by omega))
      have hM := head_lt n k N ps hk hf hN (i + 1)
      have hx := (hf i).1
      have hS := (hf i).2
      have htr2 := hid htr
      have HCL := hid hcl
      clear ha y own1 htr hcl
      generalize (sweepL n k N (ps.drop (i + 1))).2 = M at *
      obtain ⟨b0, b1, b2⟩ : wr.cell? ⟨w.heap.size, 0, none⟩ = some (.int .u8 n.op) ∧ wr.cell? ⟨w.heap.size, 1, none⟩ = some (.int .i64 n.l) ∧ wr.cell? ⟨w.heap.size, 2, none⟩ = some (.int .i64 n.r) := by
        refine ⟨?_, ?_, ?_⟩ <;> (rw [cell_of_row wr _ _ _ _ _ hbox]; rfl)
      have hlx := heap_lt hbox
      generalize letAt ps i = X at *
      generalize heldAt ps i = S at *
      have LW := fun W => law_any n k X S M W hl hr hk hx hS hM
      unfold ndV at LW
      have ei : (((i + 1 : Nat) : Int) - 1) = (i : Int) := by omega
      simp only [ei]
      clear ei
      go_wp2_with fail
      refine (LW _).mono ?_
      rintro e w2 ⟨rfl, hb2⟩
      have HNH : Hid (wth S k (lawB n.op X (S.testBit n.l) (S.testBit n.r) (M.testBit k) (M.testBit n.l)) = newHeld n k (X, S) M) := hid rfl
      clear LW
      generalize lawB n.op X (S.testBit n.l) (S.testBit n.r) (M.testBit k) (M.testBit n.l) = v at *
      have hw2 := hb2.size
      simp only [World.size_alloc] at hw2
      have h0 := (hb2.cell (p := ⟨wr.heap.size, 0, none⟩) (by simp)).trans (World.cell?_alloc_new wr _ _ 0)
      have h1 := (hb2.cell (p := ⟨wr.heap.size, 1, none⟩) (by simp)).trans (World.cell?_alloc_new wr _ _ 1)
      have q1 := (hb2.frozen (p := ⟨wr.heap.size, 1, none⟩) (by simp)).trans (World.frozen?_alloc_new wr _ _ 1)
      simp at h0 h1
      go_wp2_with fail
      refine (with_any S k v w2 hS hk).mono ?_
      rintro e w3 ⟨rfl, rfl⟩
      have hbw : Below wr.heap.size wr w3 := ((Below.refl _ _).alloc (Nat.le_refl _) _).trans (hb2.mono (by simp))
      have d2 := (hbw.cell (p := ⟨T, 0, none⟩) (by show T < wr.heap.size; omega)).trans d0
      have y3 := (hbw.cell (p := ⟨g1, i * 2, none⟩) hg1).trans y1
      have y4 := (hbw.cell (p := ⟨g1, i * 2 + 1, none⟩) hg1).trans y2
      have z3 := (hbw.frozen (p := ⟨g1, i * 2, none⟩) hg1).trans z1
      have z4 := (hbw.frozen (p := ⟨g1, i * 2 + 1, none⟩) hg1).trans z2
      have HBW := hid hbw
      have HBX := hid hbox
      clear hbox hbw hb2 d0 y1 y2 z1 z2 b0 b1 b2 hw2
      generalize wth S k v = S2 at *
      go_wp2_with fail
      go_region
      all_goals go_wp2_with fail
      all_goals go_roundw
      case rel =>
        have hbx : Below wr.heap.size wr (w3.setCell ⟨wr.heap.size, 1, none⟩ (.int .i64 S2)) := HBW.out.setCell (p := ⟨wr.heap.size, 1, none⟩) (Nat.le_refl _) _
        obtain ⟨t1, t2, t3⟩ := tb_put (i := i) (x := X) (S := S2) (htr2.out.below hbx) (by rw [HCL.out]; omega) HCL.out (cap := cap1) (g := g1) ((World.cell?_setCell_other _ _ _ _ (fun e => by have := congrArg Addr.block e; simp at this; omega)).trans d2)
        rw [HNH.out, HA.out, ← HNH.out] at t1
        have hk3 := hkr.trans ((KpT.of_below hbx).trans t2)
        refine ⟨i, by omega, rfl, by rw [HH.out, ← HNH.out], t1.drewN _, ?_, hk3, ?_⟩
        · exact below_drewN ((hbr.trans (hbx.mono (by omega))).trans (t3.mono (Nat.le_succ _))) _
        · exact (KpT.of_below hbx |>.trans t2) _ _ _ _ HBX.out (by decide)
      case measure => simp [intOf]

end Go.Proofs.Ytjagijohfkffiaa
