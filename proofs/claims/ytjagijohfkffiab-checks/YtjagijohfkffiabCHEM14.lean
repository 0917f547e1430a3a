import Derived.Test.YtjagijohfkffiabCHEM01
import Derived.Test.YtjagijohfkffiabCHEM05
import Derived.Test.YtjagijohfkffiabCHEM12
import Derived.Outline
import Derived.Deep.RegionWith

/- The reference's parts in memory. -/
namespace Go.Proofs.Ytjagijohfkffiab
open Go.RowKit
set_option linter.unusedVariables false

def ptrTo1 (b : Nat) : Value := .pointer (some ⟨b, 0, none⟩)
def lptr (bs : List Nat) (n : Nd) : Option Addr := if leafB n.op then none else some ⟨bs.getD n.l 0, 0, none⟩
def rptr (bs : List Nat) (n : Nd) : Option Addr := if twoB n.op then some ⟨bs.getD n.r 0, 0, none⟩ else none
/-- The block of part i. -/
def partObj (bs : List Nat) (i : Nat) (n : Nd) : Obj := .cells #[.int .u8 n.op, .pointer (lptr bs n), .pointer (rptr bs n), .int .i64 i] 181 (0, 0)

theorem World.cell?_alloc_here (w : World) (c : Array Value) (t : TypeId) (n i : Nat) (h : n = w.heap.size) : (w.alloc (.cells c t)).cell? ⟨n, i, none⟩ = c[i]? := by
  subst h; simp

/-- The formula at block F: its nodes ns, their parts' blocks bs. -/
structure Fm (w : World) (F : Nat) (ns : List Nd) (bs : List Nat) : Prop where
  c0 : ∃ ao cap, w.cell? ⟨F, 0, none⟩ = some (.slice ao ns.length cap) ∧ w.ownsRow (F + 1) 175 1 (.slice ao ns.length cap) ns.length (bs.map ptrTo1)
  f0 : w.frozen? ⟨F, 0, none⟩ = false
  len : bs.length = ns.length
  wf : Wf ns
  parts : ∀ (i : Nat) (n : Nd), ns[i]? = some n → ∃ b, bs[i]? = some b ∧ F < b ∧ w.heap[b]? = some (partObj bs i n)

/-- Blocks of cells of other types than the row's stay. -/
def Kp (F : Nat) (w w' : World) : Prop := ∀ (q : Nat) (c : Array Value) (T : TypeId), w.heap[q]? = some (.cells c T (0, 0)) → T ≠ 175 → q ≠ F → w'.heap[q]? = some (.cells c T (0, 0))

theorem heap_lt {w : World} {q : Nat} {o : Obj} (h : w.heap[q]? = some o) : q < w.heap.size := (Array.getElem?_eq_some_iff.1 h).1

theorem Kp.refl (F : Nat) (w : World) : Kp F w w := fun _ _ _ h _ _ => h
theorem Kp.trans {F : Nat} {a b c : World} (h : Kp F a b) (k : Kp F b c) : Kp F a c := fun q x T h1 h2 h3 => k q x T (h q x T h1 h2 h3) h2 h3
theorem Kp.alloc (F : Nat) (w : World) (o : Obj) : Kp F w (w.alloc o) := fun q c T h _ _ => by rw [Below.heap_alloc w o q (heap_lt h)]; exact h
theorem Kp.drew {F : Nat} {a w : World} (h : Kp F a w) : Kp F a w.drew := h
/-- A store into a block that came later, or into F. -/
theorem Kp.set {F : Nat} {a w : World} (h : Kp F a w) {P : Nat} (hP : a.heap.size ≤ P ∨ P = F) (j : Nat) (v : Value) : Kp F a (w.setCell ⟨P, j, none⟩ v) := fun q c T h1 h2 h3 => by
  have := heap_lt h1
  rw [Below.heap_setCell _ _ _ _ (by show q ≠ P; omega)]
  exact h q c T h1 h2 h3
theorem Kp.grown {F : Nat} {w w' : World} {v : Value} {n : Nat} {xs : List Value} (own : w.ownsRow (F + 1) 175 1 v n xs) (hg : w.grownBy w' v.ownBlock) : Kp F w w' := fun q c T h1 h2 h3 => by
  rw [hg.block q (heap_lt h1) (fun e => ?_)]
  · exact h1
  · rcases own.2 with ⟨hv, _⟩ | ⟨g, cap, cur, hv, _, hh, _⟩
    · rw [hv] at e; simp [Value.ownBlock] at e
    · rw [hv] at e
      simp [Value.ownBlock] at e
      subst e
      rw [h1] at hh
      simp at hh
      exact h2 hh.2

theorem own_set {w : World} {B e : Nat} {size : Nat} {v : Value} {n : Nat} {xs : List Value} (own : w.ownsRow B e size v n xs) {P : Nat} {o : Obj} (hP : w.heap[P]? = some o) (ho : ∀ c, o ≠ .cells c e (0, 0)) (j : Nat) (u : Value) :
    (w.setCell ⟨P, j, none⟩ u).ownsRow B e size v n xs := by
  obtain ⟨h1, h2⟩ := own
  refine ⟨h1, ?_⟩
  rcases h2 with h2 | ⟨g, cap, cur, hv, hb, hh, r⟩
  · exact Or.inl h2
  · refine Or.inr ⟨g, cap, cur, hv, hb, ?_, r⟩
    rw [Below.heap_setCell _ _ _ _ ?_]
    · exact hh
    · intro e'
      have e2 : g = P := e'
      subst e2
      rw [hh] at hP
      exact ho _ (Option.some.inj hP).symm

section
variable {w : World} {F : Nat} {ns : List Nd} {bs : List Nat}

theorem Fm.ltF (h : Fm w F ns bs) : F < w.heap.size := by
  obtain ⟨_, _, c, _⟩ := h.c0
  exact World.block_lt_of_cell? w ⟨F, 0, none⟩ c

theorem Fm.own (h : Fm w F ns bs) {v : Value} (hc : w.cell? ⟨F, 0, none⟩ = some v) : (∃ ao cap, v = .slice ao ns.length cap) ∧ w.ownsRow (F + 1) 175 1 v ns.length (bs.map ptrTo1) := by
  obtain ⟨ao, cap, c, own⟩ := h.c0
  rw [c] at hc
  cases hc
  exact ⟨⟨_, _, rfl⟩, own⟩

theorem Fm.lt (h : Fm w F ns bs) : ∀ b ∈ bs, b < w.heap.size ∧ F < b := by
  intro b hb
  obtain ⟨i, hi, rfl⟩ := List.getElem_of_mem hb
  obtain ⟨b', e, hF, hh⟩ := h.parts i (ns[i]'(by rw [← h.len]; exact hi)) (by simp)
  rw [List.getElem?_eq_getElem hi] at e
  cases e
  exact ⟨heap_lt hh, hF⟩

theorem Fm.alloc (h : Fm w F ns bs) (o : Obj) : Fm (w.alloc o) F ns bs := by
  obtain ⟨ao, cap, c, own⟩ := h.c0
  refine ⟨⟨ao, cap, ?_, own.alloc o⟩, ?_, h.len, h.wf, ?_⟩
  · rw [World.cell?_alloc_past _ _ _ h.ltF]; exact c
  · rw [World.frozen?_alloc_past _ _ _ h.ltF]; exact h.f0
  · intro i n hn
    obtain ⟨b, e, hF, hh⟩ := h.parts i n hn
    exact ⟨b, e, hF, by rw [Below.heap_alloc _ _ _ (heap_lt hh)]; exact hh⟩

theorem Fm.drew (h : Fm w F ns bs) : Fm w.drew F ns bs := ⟨h.c0, h.f0, h.len, h.wf, h.parts⟩

/-- A store into a part that is not yet listed. -/
theorem Fm.set (h : Fm w F ns bs) {P : Nat} (hP : P ∉ bs) (hF : P ≠ F) {o : Obj} (ho : w.heap[P]? = some o) (hne : ∀ c, o ≠ .cells c 175 (0, 0)) (j : Nat) (v : Value) : Fm (w.setCell ⟨P, j, none⟩ v) F ns bs := by
  obtain ⟨ao, cap, c, own⟩ := h.c0
  refine ⟨⟨ao, cap, ?_, own_set own ho hne j v⟩, ?_, h.len, h.wf, ?_⟩
  · rw [World.cell?_setCell_other _ _ _ _ (fun e => hF (congrArg Addr.block e))]; exact c
  · rw [World.frozen?_setCell]; exact h.f0
  · intro i n hn
    obtain ⟨b, e, hF, hh⟩ := h.parts i n hn
    refine ⟨b, e, hF, ?_⟩
    rw [Below.heap_setCell _ _ _ _ ?_]
    · exact hh
    · intro e'
      have e2 : b = P := e'
      subst e2
      exact hP (List.mem_of_getElem? e)

theorem getD_snoc {bs : List Nat} {i P : Nat} (h : i < bs.length) : (bs ++ [P]).getD i 0 = bs.getD i 0 := by
  simp [List.getD, List.getElem?_append_left h]

theorem partObj_snoc {ns : List Nd} {bs : List Nat} (hw : Wf ns) (hl : bs.length = ns.length) {i : Nat} {n : Nd} (hn : ns[i]? = some n) (P : Nat) : partObj (bs ++ [P]) i n = partObj bs i n := by
  have hi := (List.getElem?_eq_some_iff.1 hn).1
  obtain ⟨h1, h2⟩ := hw i n hn
  have e1 : lptr (bs ++ [P]) n = lptr bs n := by
    unfold lptr
    cases hb : leafB n.op with
    | true => rfl
    | false => rw [getD_snoc (by have := h1 hb; omega)]
  have e2 : rptr (bs ++ [P]) n = rptr bs n := by
    unfold rptr
    cases hb : twoB n.op with
    | false => rfl
    | true => rw [getD_snoc (by have := h2 hb; omega)]
  unfold partObj
  rw [e1, e2]

/-- A part is listed: the row has grown, its value is stored. -/
theorem Fm.push (h : Fm w F ns bs) {w' : World} (hk : Kp F w w') (hb : Below (F + 1) w w') {P : Nat} (hPF : F < P) (n : Nd) (h1 : leafB n.op = false → n.l < ns.length) (h2 : twoB n.op = true → n.r < ns.length)
    (hP : w.heap[P]? = some (partObj bs ns.length n)) (ao : Option Addr) (cap : Nat)
    (own : w'.ownsRow (F + 1) 175 1 (.slice ao (ns.length + 1) cap) (ns.length + 1) (bs.map ptrTo1 ++ [ptrTo1 P])) :
    Fm (w'.setCell ⟨F, 0, none⟩ (.slice ao (ns.length + 1) cap)) F (ns ++ [n]) (bs ++ [P]) := by
  obtain ⟨_, _, c, _⟩ := h.c0
  have hw := h.wf.snoc n h1 h2
  refine ⟨⟨ao, cap, ?_, ?_⟩, ?_, by simp [h.len], hw, ?_⟩
  · rw [List.length_append, List.length_singleton]
    exact World.cell?_setCell_same _ _ _ ((hb.cell (p := ⟨F, 0, none⟩) (Nat.lt_succ_self _)).trans c)
  · rw [List.length_append, List.length_singleton, List.map_append]
    exact ownsRow_setCell_below own (by simp) _
  · rw [World.frozen?_setCell, hb.frozen (p := ⟨F, 0, none⟩) (Nat.lt_succ_self _)]; exact h.f0
  · intro i m hm
    by_cases hi : i < ns.length
    · rw [List.getElem?_append_left hi] at hm
      obtain ⟨b, e, hF, hh⟩ := h.parts i m hm
      refine ⟨b, by rw [List.getElem?_append_left (by rw [h.len]; exact hi)]; exact e, hF, ?_⟩
      rw [Below.heap_setCell _ _ _ _ (by show b ≠ F; omega), partObj_snoc h.wf h.len hm]
      exact hk b _ _ hh (by decide) (by omega)
    · have hi2 : i = ns.length := by
        have := (List.getElem?_eq_some_iff.1 hm).1
        simp at this; omega
      subst hi2
      simp at hm
      subst hm
      refine ⟨P, by rw [← h.len]; simp, hPF, ?_⟩
      rw [Below.heap_setCell _ _ _ _ (by show P ≠ F; omega), show partObj (bs ++ [P]) ns.length n = partObj bs ns.length n from ?_]
      · exact hk P _ _ hP (by decide) (by omega)
      · have e1 : lptr (bs ++ [P]) n = lptr bs n := by
          unfold lptr
          cases hb : leafB n.op with
          | true => rfl
          | false => rw [getD_snoc (by have := h1 hb; rw [h.len]; omega)]
        have e2 : rptr (bs ++ [P]) n = rptr bs n := by
          unfold rptr
          cases hb : twoB n.op with
          | false => rfl
          | true => rw [getD_snoc (by have := h2 hb; rw [h.len]; omega)]
        unfold partObj
        rw [e1, e2]
end

end Go.Proofs.Ytjagijohfkffiab

/- The walks of sweep and fill. -/
namespace Go.Proofs.Ytjagijohfkffiab
open Go.RowKit
set_option linter.unusedVariables false

def flatP (ps : List (Nat × Nat)) : List Value := ps.flatMap fun p => [.int .i64 p.1, .int .i64 p.2]
/-- The table at block T. -/
structure Tb (w : World) (T back : Nat) (ps : List (Nat × Nat)) : Prop where
  c0 : ∃ ao cap, w.cell? ⟨T, 0, none⟩ = some (.slice ao ps.length cap) ∧ w.ownsRow (T + 1) 145 2 (.slice ao ps.length cap) ps.length (flatP ps)
  c1 : w.cell? ⟨T, 1, none⟩ = some (.int .i64 back)
  f0 : w.frozen? ⟨T, 0, none⟩ = false

/-- Blocks of cells of other types than the places' stay. -/
def KpT (w w' : World) : Prop := ∀ (q : Nat) (c : Array Value) (Ty : TypeId) (z : Nat × Nat), w.heap[q]? = some (.cells c Ty z) → Ty ≠ 145 → w'.heap[q]? = some (.cells c Ty z)

theorem KpT.refl (w : World) : KpT w w := fun _ _ _ _ h _ => h
theorem KpT.trans {a b c : World} (h : KpT a b) (k : KpT b c) : KpT a c := fun q x T z h1 h2 => k q x T z (h q x T z h1 h2) h2
theorem KpT.drewN {a w : World} (h : KpT a w) (n : Nat) : KpT a (w.drewN n) := h

theorem Tb.lt {w : World} {T back : Nat} {ps : List (Nat × Nat)} (h : Tb w T back ps) : T < w.heap.size := World.block_lt_of_cell? w ⟨T, 1, none⟩ h.c1

theorem Tb.row {w : World} {T back : Nat} {ps : List (Nat × Nat)} (h : Tb w T back ps) (hn : 0 < ps.length) : ∃ g cap, w.cell? ⟨T, 0, none⟩ = some (.slice (some ⟨g, 0, none⟩) ps.length cap) ∧ w.ownsRow (T + 1) 145 2 (.slice (some ⟨g, 0, none⟩) ps.length cap) ps.length (flatP ps) ∧ T < g ∧ g < w.heap.size ∧ ps.length ≤ cap := by
  obtain ⟨ao, cap, c, own⟩ := h.c0
  rcases own.2 with ⟨e, h0⟩ | ⟨g, cap', cur, e, hb, hh, hc, _⟩
  · omega
  · cases e
    exact ⟨g, cap, c, own, by omega, (Array.getElem?_eq_some_iff.1 hh).1, hc⟩

/-- The table stays behind whatever leaves all old blocks. -/
theorem Tb.below {w w' : World} {T back : Nat} {ps : List (Nat × Nat)} (h : Tb w T back ps) (hb : Below w.heap.size w w') : Tb w' T back ps := by
  obtain ⟨ao, cap, c, own⟩ := h.c0
  refine ⟨⟨ao, cap, ?_, ?_⟩, ?_, ?_⟩
  · rw [hb.cell h.lt]; exact c
  · exact own.kept (row := none) ⟨hb.os, hb.tape, hb.output, hb.size, fun k hk _ => hb.block k hk⟩ (by cases hv : (Value.slice ao ps.length cap).ownBlock <;> simp)
  · rw [hb.cell h.lt]; exact h.c1
  · rw [hb.frozen h.lt]; exact h.f0

theorem KpT.set {a w : World} (h : KpT a w) {P : Nat} (hP : a.heap.size ≤ P ∨ ∃ c z, a.heap[P]? = some (.cells c 145 z)) (j : Nat) (v : Value) : KpT a (w.setCell ⟨P, j, none⟩ v) := fun q c Ty z h1 h2 => by
  have hq := (Array.getElem?_eq_some_iff.1 h1).1
  have : q ≠ P := by
    rcases hP with hP | ⟨c', z', hP⟩
    · omega
    · intro e
      subst e
      rw [h1] at hP
      simp at hP
      exact h2 hP.2.1
  rw [Below.heap_setCell _ _ _ _ this]
  exact h q c Ty z h1 h2

theorem Tb.drewN {w : World} {T back : Nat} {ps : List (Nat × Nat)} (h : Tb w T back ps) (m : Nat) : Tb (w.drewN m) T back ps := ⟨h.c0, h.c1, h.f0⟩

end Go.Proofs.Ytjagijohfkffiab

/- The walk of fill. -/
namespace Go.Proofs.Ytjagijohfkffiab
open Go.RowKit
set_option linter.unusedVariables false

end Go.Proofs.Ytjagijohfkffiab

/- The walk of Endless.Holds. -/
namespace Go.Proofs.Ytjagijohfkffiab
open Go.RowKit
set_option linter.unusedVariables false

def natInts (xs : List Nat) : List Value := xs.map fun x => Value.int .i64 (x : Nat)

theorem flat_get (ns : List Nd) (i : Nat) (hi : i < ns.length) : (flat ns)[i * 3]? = some (.int .u8 (ndAt ns i).op) ∧ (flat ns)[i * 3 + 1]? = some (.int .i64 (ndAt ns i).l) ∧ (flat ns)[i * 3 + 2]? = some (.int .i64 (ndAt ns i).r) := by
  induction ns generalizing i with
  | nil => simp at hi
  | cons p ps ih =>
    cases i with
    | zero => simp [flat, ndAt]
    | succ i =>
      have := ih i (by simpa using hi)
      rw [show ndAt (p :: ps) (i + 1) = ndAt ps i by simp [ndAt], show flat (p :: ps) = [.int .u8 p.op, .int .i64 p.l, .int .i64 p.r] ++ flat ps by simp [flat]]
      rw [List.getElem?_append_right (by simp; omega), List.getElem?_append_right (by simp; omega), List.getElem?_append_right (by simp; omega)]
      simpa [show (i + 1) * 3 - 3 = i * 3 by omega, show (i + 1) * 3 + 1 - 3 = i * 3 + 1 by omega, show (i + 1) * 3 + 2 - 3 = i * 3 + 2 by omega] using this

/-- A row of the call's own that has something in it: where it lies. -/
theorem own_at {w : World} {B e size n cap : Nat} {ao : Option Addr} {xs : List Value} (h : w.ownsRow B e size (.slice ao n cap) n xs) (hn : 0 < n) : ∃ g, ao = some ⟨g, 0, none⟩ ∧ B ≤ g ∧ g < w.heap.size ∧ n ≤ cap := by
  rcases h.2 with ⟨e, h0⟩ | ⟨g, cap', cur, e, hb, hh, hc, _⟩
  · omega
  · cases e
    exact ⟨g, rfl, hb, heap_lt hh, hc⟩

end Go.Proofs.Ytjagijohfkffiab
