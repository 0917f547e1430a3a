import Derived.Test.YtjagijohfkffiabFOUM07
import Derived.Test.YtjagijohfkffiabFOUM10
import Derived.Test.YtjagijohfkffiabFOUM18
import Derived.Test.YtjagijohfkffiabFOUM23
import Derived.Test.YtjagijohfkffiabFOUM24
import Derived.Deep.AppendLies
import Derived.Deep.RegionHeld3
import Derived.Deep.MidRow
import Derived.Deep.WholeRow
import Derived.BigQuiet
import Derived.Deep.RegionWith
import Derived.Deep.RegionLaw

/- The walk of the reference's at (laid by gen_fat.py). -/
namespace Go.Proofs.Ytjagijohfkffiab
open Go.RowKit
set_option linter.unusedVariables false

/-- All blocks but T and two rows are as they were. -/
structure KB (w w' : World) (T : Nat) (r1 r2 : Option Nat) : Prop where
  os : w'.os = w.os
  tape : w'.tape = w.tape
  output : w'.output = w.output
  size : w.heap.size ≤ w'.heap.size
  block : ∀ k, k < w.heap.size → k ≠ T → some k ≠ r1 → some k ≠ r2 → w'.heap[k]? = w.heap[k]?
theorem KB.of_below {w w' : World} {T : Nat} {r1 r2 : Option Nat} (h : Below w.heap.size w w') : KB w w' T r1 r2 := ⟨h.os, h.tape, h.output, h.size, fun k hk _ _ _ => h.block k hk⟩
theorem KB.cell {w w' : World} {T : Nat} {r1 r2 : Option Nat} (h : KB w w' T r1 r2) {p : Addr} (hp : p.block < w.heap.size) (h1 : p.block ≠ T) (h2 : some p.block ≠ r1) (h3 : some p.block ≠ r2) : w'.cell? p = w.cell? p := World.cell?_of_block (h.block _ hp h1 h2 h3)
theorem KB.frozen {w w' : World} {T : Nat} {r1 r2 : Option Nat} (h : KB w w' T r1 r2) {p : Addr} (hp : p.block < w.heap.size) (h1 : p.block ≠ T) (h2 : some p.block ≠ r1) (h3 : some p.block ≠ r2) : w'.frozen? p = w.frozen? p := World.frozen?_of_block (h.block _ hp h1 h2 h3)
def flatRP (rs : List (Nat × Nat)) (M : Nat) : List Value := rs.flatMap fun p => [.slice (some ⟨p.1, 0, none⟩) M M, .slice (some ⟨p.2, 0, none⟩) M M]
/-- The reference's states as they are met, in memory. -/
structure FuM (w : World) (B T M : Nat) (vS vO vN : Value) (rs : List (Nat × Nat)) (fs : List ((Nat → Bool) × (Nat → Bool))) (outs : List Nat) : Prop where
  t : Three w T vS vO vN
  tB : T < B
  len : fs.length = rs.length
  olen : outs.length = rs.length
  st : w.ownsRow B 245 2 vS rs.length (flatRP rs M)
  ou : w.ownsRow B 3 1 vO rs.length (nInts outs)
  row : ∀ (i : Nat) p q, rs[i]? = some p → fs[i]? = some q → w.ownsRow B 4 1 (.slice (some ⟨p.1, 0, none⟩) M M) M (outTo q.1 M M) ∧ w.ownsRow B 4 1 (.slice (some ⟨p.2, 0, none⟩) M M) M (outTo q.2 M M)
theorem FuM.below {w w' : World} {B T M : Nat} {vS vO vN : Value} {rs : List (Nat × Nat)} {fs : List ((Nat → Bool) × (Nat → Bool))} {outs : List Nat} (h : FuM w B T M vS vO vN rs fs outs) (hb : Below w.heap.size w w') : FuM w' B T M vS vO vN rs fs outs :=
  ⟨h.t.below hb h.t.lt, h.tB, h.len, h.olen, own_keeps h.st hb, own_keeps h.ou hb, fun i p q h1 h2 => ⟨own_keeps (h.row i p q h1 h2).1 hb, own_keeps (h.row i p q h1 h2).2 hb⟩⟩
end Go.Proofs.Ytjagijohfkffiab

/- The reference's rings: its mathematics; what turned promises (TurnedC), of which rings and endless are told. -/
namespace Go.Proofs.Ytjagijohfkffiab
open Go.RowKit
set_option linter.unusedVariables false

theorem BO.keeps {w w' : World} {B g N : Nat} {f : Nat → Bool} (h : BO w B g N f) (hb : Below w.heap.size w w') : BO w' B g N f := own_keeps h hb
theorem BO.base {w : World} {B B2 g N : Nat} {f : Nat → Bool} (h : BO w B g N f) (hb : B2 ≤ B) : BO w B2 g N f := by
  refine ⟨h.1, ?_⟩
  rcases h.2 with h0 | ⟨x, cap, cur, e, hx, r⟩
  · exact Or.inl h0
  · exact Or.inr ⟨x, cap, cur, e, Nat.le_trans hb hx, r⟩

/-- The blocks from a on are as they were. -/
structure Stays (a : Nat) (w w' : World) : Prop where
  size : w.heap.size ≤ w'.heap.size
  block : ∀ x, a ≤ x → x < w.heap.size → w'.heap[x]? = w.heap[x]?
theorem Stays.refl (a : Nat) (w : World) : Stays a w w := ⟨Nat.le_refl _, fun _ _ _ => rfl⟩
theorem Stays.below {a : Nat} {w w' w2 : World} (h : Stays a w w') (hb : Below w'.heap.size w' w2) : Stays a w w2 := ⟨Nat.le_trans h.size hb.size, fun x h1 h2 => (hb.block x (Nat.lt_of_lt_of_le h2 h.size)).trans (h.block x h1 h2)⟩
theorem Stays.set {a : Nat} {w w' : World} (h : Stays a w w') {k : Nat} (hk : k < a) (o : Nat) (u : Value) : Stays a w (w'.setCell ⟨k, o, none⟩ u) := ⟨by rw [World.size_setCell]; exact h.size, fun x h1 h2 => (Below.heap_setCell _ _ _ _ (by simp; omega)).trans (h.block x h1 h2)⟩

/-- What turned answers. -/
def TurnedC : Prop := ∀ (P N K : Nat) (to : Nat → List Nat) (kp : Nat → Nat → Bool) (w : World), NetM w P N to K kp → 0 < N → (∀ a, a < N → ∀ b ∈ to a, b < N) → (∀ a, a < N → (to a).length ≤ 4398046511104) → (∀ a, a < N → ∀ j, (to a).count j ≤ 8) → N ≤ 274877906944 →
    Calls Try.prog 96 #[.pointer (some ⟨P, 0, none⟩)] w fun e w' => ∃ P2 tl, e = .returned (.pointer (some ⟨P2, 0, none⟩)) ∧ (∀ w2, Stays w.heap.size w' w2 → NetM w2 P2 N tl 0 kp) ∧ (∀ j a, a ∈ tl j ↔ a < N ∧ j ∈ to a) ∧ (∀ j, (tl j).length ≤ 8 * N) ∧ Below w.heap.size w w'

end Go.Proofs.Ytjagijohfkffiab

/- The walk of the reference's rings. -/
namespace Go.Proofs.Ytjagijohfkffiab
open Go.RowKit
set_option linter.unusedVariables false

end Go.Proofs.Ytjagijohfkffiab

/- The walk of the reference's endless. -/
namespace Go.Proofs.Ytjagijohfkffiab
open Go.RowKit
set_option linter.unusedVariables false

end Go.Proofs.Ytjagijohfkffiab

/- The walk of the reference's net. -/
namespace Go.Proofs.Ytjagijohfkffiab
open Go.RowKit
set_option linter.unusedVariables false

def mOf (vs : List Nat) (i : Nat) : Nat → Bool := bitF (atN vs i)
def toK (ns : List Nd) (vs : List Nat) (i k : Nat) : List Nat := (List.range k).filter fun q => folB ns (mOf vs i) (mOf vs q)
def toS (ns : List Nd) (vs : List Nat) (i : Nat) : List Nat := toK ns vs i vs.length
end Go.Proofs.Ytjagijohfkffiab

/- The reference's rows in memory; the walk of whole. -/
namespace Go.Proofs.Ytjagijohfkffiab
open Go.RowKit
set_option linter.unusedVariables false

structure RowsM (w : World) (R F gp cap : Nat) (ns : List Nd) (bs vs : List Nat) : Prop where
  lt : R < w.heap.size
  fr : FR w F gp cap ns bs
  c0 : w.cell? ⟨R, 0, none⟩ = some (.pointer (some ⟨F, 0, none⟩))
  c1 : ∃ v, w.cell? ⟨R, 1, none⟩ = some v ∧ BRs w v vs.length ns.length (mOf vs)
  c2 : ∃ v, w.cell? ⟨R, 2, none⟩ = some v ∧ NRs w v vs.length (toS ns vs)

theorem RowsM.below {w w' : World} {R F gp cap : Nat} {ns : List Nd} {bs vs : List Nat} (h : RowsM w R F gp cap ns bs vs) (hb : Below w.heap.size w w') : RowsM w' R F gp cap ns bs vs := by
  obtain ⟨v1, a1, b1⟩ := h.c1
  obtain ⟨v2, a2, b2⟩ := h.c2
  exact ⟨Nat.lt_of_lt_of_le h.lt hb.size, h.fr.below hb, (hb.cell (p := ⟨R, 0, none⟩) h.lt).trans h.c0, ⟨v1, (hb.cell (p := ⟨R, 1, none⟩) h.lt).trans a1, b1.below hb⟩, ⟨v2, (hb.cell (p := ⟨R, 2, none⟩) h.lt).trans a2, b2.below hb⟩⟩

end Go.Proofs.Ytjagijohfkffiab

/- The walk of the reference's on. -/
namespace Go.Proofs.Ytjagijohfkffiab
open Go.RowKit
set_option linter.unusedVariables false

section
variable (ns : List Nd) (vs : List Nat) (f : Nat → Bool) (a : Nat)
end

end Go.Proofs.Ytjagijohfkffiab

/- The reference's sets, net, rows, on: joined to the mathematics (Chain, SetsB). Pure. -/
namespace Go.Proofs.Ytjagijohfkffiab
open Go.RowKit
set_option linter.unusedVariables false

end Go.Proofs.Ytjagijohfkffiab

/- Plain mathematics: the reference's rows behind a word, by the program's views. -/
namespace Go.Proofs.Ytjagijohfkffiab
set_option linter.unusedVariables false

end Go.Proofs.Ytjagijohfkffiab

/- The reference's turned: plain mathematics, and its lists in memory. -/
namespace Go.Proofs.Ytjagijohfkffiab
open Go.RowKit
set_option linter.unusedVariables false

/-- The lists in memory, each in a row of its own. -/
structure TnM (w : World) (B0 B g2 N : Nat) (V : Nat → Value) (tl : Nat → List Nat) : Prop where
  out : w.ownsRow B0 22 1 (.slice (some ⟨g2, 0, none⟩) N N) N ((List.range N).map V)
  row : ∀ j, j < N → w.ownsRow B 3 1 (V j) (tl j).length (nInts (tl j))
  sep : ∀ i j, i < N → j < N → i ≠ j → (V i).ownBlock = none ∨ (V i).ownBlock ≠ (V j).ownBlock

theorem TnM.keeps {w w' : World} {B0 B g2 N : Nat} {V : Nat → Value} {tl : Nat → List Nat} (h : TnM w B0 B g2 N V tl) (hb : Below w.heap.size w w') : TnM w' B0 B g2 N V tl := ⟨own_keeps h.out hb, fun j hj => own_keeps (h.row j hj) hb, h.sep⟩

end Go.Proofs.Ytjagijohfkffiab

/- The walk of the reference's turned (laid by gen_turned.py). -/
namespace Go.Proofs.Ytjagijohfkffiab
open Go.RowKit
set_option linter.unusedVariables false

theorem Stays.cell {a : Nat} {w w' : World} (hs : Stays a w w') {x o : Nat} (h1 : a ≤ x) (h2 : x < w.heap.size) : w'.cell? ⟨x, o, none⟩ = w.cell? ⟨x, o, none⟩ := by
  have := hs.block x h1 h2
  unfold World.cell?
  simp only [this]

end Go.Proofs.Ytjagijohfkffiab

/- For the walk of the reference's rows: what it lays down; a struct of three cells. -/
namespace Go.Proofs.Ytjagijohfkffiab
open Go.RowKit
set_option linter.unusedVariables false

end Go.Proofs.Ytjagijohfkffiab

/- The walk of the reference's rows (laid by gen_rows.py). -/
namespace Go.Proofs.Ytjagijohfkffiab
open Go.RowKit
set_option linter.unusedVariables false

end Go.Proofs.Ytjagijohfkffiab

/- The walk of the reference's Judge. -/
namespace Go.Proofs.Ytjagijohfkffiab
open Go.RowKit
set_option linter.unusedVariables false

section
variable (s : ByteArray) (a1 : Option Addr) (l1 c1 : Nat) (z1 : List Int) (w : World)

end

end Go.Proofs.Ytjagijohfkffiab

/- Plain mathematics: the reference's states are the program's; nets whose places are a spot and a set. -/
namespace Go.Proofs.Ytjagijohfkffiab
set_option linter.unusedVariables false

/-! ### Places: a spot and a set -/
/-! ### What slips -/
end Go.Proofs.Ytjagijohfkffiab

/- The walk of the reference's full. -/
namespace Go.Proofs.Ytjagijohfkffiab
open Go.RowKit
set_option linter.unusedVariables false

/-- What full hands back, as far as it is read again. -/
structure FullR (w : World) (P K : Nat) (out : Nat → Nat) (nx : Nat → List Nat) : Prop where
  lt : P < w.heap.size
  c0 : ∃ ao cap, w.cell? ⟨P, 0, none⟩ = some (.slice ao K cap)
  c1 : ∃ v, w.cell? ⟨P, 1, none⟩ = some v ∧ NR w v ((List.range K).map out)
  c2 : ∃ v, w.cell? ⟨P, 2, none⟩ = some v ∧ NRs w v K nx
theorem FullR.below {w w' : World} {P K : Nat} {out : Nat → Nat} {nx : Nat → List Nat} (h : FullR w P K out nx) (hb : Below w.heap.size w w') : FullR w' P K out nx := by
  obtain ⟨ao, cap, h0⟩ := h.c0
  obtain ⟨v1, a1, b1⟩ := h.c1
  obtain ⟨v2, a2, b2⟩ := h.c2
  exact ⟨Nat.lt_of_lt_of_le h.lt hb.size, ⟨ao, cap, (hb.cell (p := ⟨P, 0, none⟩) h.lt).trans h0⟩, ⟨v1, (hb.cell (p := ⟨P, 1, none⟩) h.lt).trans a1, b1.below hb⟩, ⟨v2, (hb.cell (p := ⟨P, 2, none⟩) h.lt).trans a2, b2.below hb⟩⟩

/-- A grown row changes no row of another kind. -/
theorem FuM.grown {w w' : World} {B T M : Nat} {vS vO vN : Value} {rs : List (Nat × Nat)} {fs : List ((Nat → Bool) × (Nat → Bool))} {outs : List Nat} (h : FuM w B T M vS vO vN rs fs outs) {B2 e2 s2 n2 : Nat} {v2 : Value} {ys : List Value} (h2 : w.ownsRow B2 e2 s2 v2 n2 ys) (hg : w.grownBy w' v2.ownBlock) (hT : v2.ownBlock ≠ some T) (h1 : 245 ≠ e2) (h3 : 4 ≠ e2) (h4 : vO.ownBlock = none ∨ vO.ownBlock ≠ v2.ownBlock) : FuM w' B T M vS vO vN rs fs outs := by
  have hb := hg.block T h.t.lt (fun e => hT e.symm)
  have hc : ∀ o, w'.cell? ⟨T, o, none⟩ = w.cell? ⟨T, o, none⟩ := fun o => World.cell?_of_block (a := ⟨T, o, none⟩) hb
  have hf : ∀ o, w'.frozen? ⟨T, o, none⟩ = w.frozen? ⟨T, o, none⟩ := fun o => World.frozen?_of_block (a := ⟨T, o, none⟩) hb
  exact ⟨⟨(hc 0).trans h.t.c0, (hc 1).trans h.t.c1, (hc 2).trans h.t.c2, fun o ho => (hf o).trans (h.t.fz o ho)⟩, h.tB, h.len, h.olen, h.st.kept hg (own_ne' h.st h2 h1), h.ou.kept hg h4, fun i p q a b => ⟨(h.row i p q a b).1.kept hg (own_ne' (h.row i p q a b).1 h2 h3), (h.row i p q a b).2.kept hg (own_ne' (h.row i p q a b).2 h2 h3)⟩⟩
theorem FuM.set2 {w : World} {B T M : Nat} {vS vO vN : Value} {rs : List (Nat × Nat)} {fs : List ((Nat → Bool) × (Nat → Bool))} {outs : List Nat} (h : FuM w B T M vS vO vN rs fs outs) (v : Value) : FuM (w.setCell ⟨T, 2, none⟩ v) B T M vS vO v rs fs outs :=
  ⟨h.t.set2 v, h.tB, h.len, h.olen, own_set_other h.st h.tB 2 v, own_set_other h.ou h.tB 2 v, fun i p q a b => ⟨own_set_other (h.row i p q a b).1 h.tB 2 v, own_set_other (h.row i p q a b).2 h.tB 2 v⟩⟩
end Go.Proofs.Ytjagijohfkffiab

/- Plain mathematics: the net of slips. -/
namespace Go.Proofs.Ytjagijohfkffiab
open Go.RowKit
set_option linter.unusedVariables false

section
variable (ns : List Nd) (vs : List Nat) (out : Nat → Nat) (nx : Nat → Nat → Nat) (vd : Nat)

end

end Go.Proofs.Ytjagijohfkffiab

/- Plain mathematics: the net of the reference's Check. -/
namespace Go.Proofs.Ytjagijohfkffiab
open Go.RowKit
set_option linter.unusedVariables false

section
variable (ns : List Nd) (vs : List Nat) (lt : Nat → Nat) (ed : Nat → Nat → Bool)

end

end Go.Proofs.Ytjagijohfkffiab

/- The walk of the reference's slips. -/
namespace Go.Proofs.Ytjagijohfkffiab
open Go.RowKit
set_option linter.unusedVariables false

end Go.Proofs.Ytjagijohfkffiab

/- Plain mathematics: the states of a machine sorted into kinds, numbered where the first of a kind stands. -/
namespace Go.Proofs.Ytjagijohfkffiab
set_option linter.unusedVariables false

section
variable {K : Nat} {out out' : Nat → Nat} {nx nx' : Nat → Nat → Nat} {kd : Nat → Nat}

end

/-! ### Rounds -/
end Go.Proofs.Ytjagijohfkffiab

/- Plain mathematics: the machine of a formula. -/
namespace Go.Proofs.Ytjagijohfkffiab
set_option linter.unusedVariables false

section
variable {ns : List Nd} {liv : Nat → Bool} {us : List (List Nat)} {xs : List Nat}

end

/-! ### The reference's way: through what is met -/
section
variable (out : Nat → Nat) (nx : Nat → Nat → Nat)

end

section
variable {out : Nat → Nat} {nx : Nat → Nat → Nat} {K : Nat} {ms xs : List Nat}

end

end Go.Proofs.Ytjagijohfkffiab

/- What the reference's slips tells; the walk of its Class. -/
namespace Go.Proofs.Ytjagijohfkffiab
open Go.RowKit
set_option linter.unusedVariables false

section
variable (s : ByteArray) (w : World)

end

end Go.Proofs.Ytjagijohfkffiab

/- The walk of the reference's Check. -/
namespace Go.Proofs.Ytjagijohfkffiab
open Go.RowKit
set_option linter.unusedVariables false

theorem allL_at {u : List Int} (hu : allL u = true) {j : Nat} (hj : j < u.length) : isL (u.getD j 0) = true := by
  unfold allL at hu
  rw [List.all_eq_true] at hu
  refine hu _ ?_
  rw [List.getD, List.getElem?_eq_getElem hj]
  exact List.getElem_mem _

section
variable (a1 a2 a3 : Option Addr) (l1 c1 l2 c2 l3 c3 : Nat) (zs : List Int) (zss : List (List Int)) (ss : List Int) (s : ByteArray) (w : World)

end

end Go.Proofs.Ytjagijohfkffiab

/- The walk of the reference's Shows, where a path is shown. -/
namespace Go.Proofs.Ytjagijohfkffiab
open Go.RowKit
set_option linter.unusedVariables false

theorem Fm.below {w w' : World} {F : Nat} {ns : List Nd} {bs : List Nat} (h : Fm w F ns bs) (hb : Below w.heap.size w w') : Fm w' F ns bs := by
  obtain ⟨ao, cap, c, own⟩ := h.c0
  refine ⟨⟨ao, cap, (hb.cell (p := ⟨F, 0, none⟩) h.ltF).trans c, own_keeps own hb⟩, (hb.frozen (p := ⟨F, 0, none⟩) h.ltF).trans h.f0, h.len, h.wf, fun i n hn => ?_⟩
  obtain ⟨b, e, hF, hh⟩ := h.parts i n hn
  exact ⟨b, e, hF, (hb.block b (heap_lt hh)).trans hh⟩

/-- A part of a slice: its beginning, and its rest. -/
theorem ints_take {w : World} {b off len cap n : Nat} {zs : List Int} (h : Ints w (some ⟨b, off, none⟩) len cap zs) (hn : n ≤ len) : Ints w (some ⟨b, off, none⟩) n cap (zs.take n) := by
  refine ⟨by have := h.hlen; simp; omega, by have := h.hcap; omega, h.hmax, fun e => by simp at e, fun h0 => ?_⟩
  obtain ⟨b', off', e, hb, hc⟩ := h.hcell (by omega)
  refine ⟨b', off', e, hb, fun i hi => ?_⟩
  rw [hc i (by omega)]
  simp [List.getD, hi]
theorem ints_drop {w : World} {b off len cap n : Nat} {zs : List Int} (h : Ints w (some ⟨b, off, none⟩) len cap zs) (hn : n ≤ len) : Ints w (some ⟨b, off + n, none⟩) (len - n) (cap - n) (zs.drop n) := by
  refine ⟨by have := h.hlen; simp; omega, by have := h.hcap; omega, by have := h.hmax; omega, fun e => by simp at e, fun h0 => ?_⟩
  obtain ⟨b', off', e, hb, hc⟩ := h.hcell (by omega)
  cases e
  refine ⟨b, off + n, rfl, hb, fun i hi => ?_⟩
  rw [Nat.add_assoc, hc (n + i) (by omega)]
  simp [List.getD]

/-- The letters of the first j nodes. -/
def ltsTo (lt : Nat → Nat) (S : List Nat) (j : Nat) : List Nat := (S.take j).map lt
theorem ltsTo_succ {lt : Nat → Nat} {S : List Nat} {j : Nat} (h : j < S.length) : ltsTo lt S (j + 1) = ltsTo lt S j ++ [lt (S.getD j 0)] := by
  unfold ltsTo
  rw [List.take_succ_eq_append_getElem h, List.map_append]
  simp [List.getD, List.getElem?_eq_getElem h]
theorem ltsTo_all {lt : Nat → Nat} {S : List Nat} : ltsTo lt S S.length = S.map lt := by simp [ltsTo]

theorem below_drew1 {B : Nat} {w w' : World} (h : Below B w w') : Below B w w'.drew := ⟨h.os, h.tape, h.output, h.size, h.block⟩

section
variable (a1 a2 a3 a4 a5 : Option Addr) (l1 c1 l2 c2 l3 c3 l4 c4 l5 c5 : Nat) (zs : List Int) (zss : List (List Int)) (ss : List Int) (SA SB : List Nat) (s : ByteArray) (w : World)

end
end Go.Proofs.Ytjagijohfkffiab

/- The walks of verdictkeep's edge, letters, path. -/
namespace Go.Proofs.Ytjagijohfkffiab
open Go.RowKit
set_option linter.unusedVariables false

section
variable (a1 a2 a3 : Option Addr) (l1 c1 l2 c2 l3 c3 : Nat) (zs : List Int) (zss : List (List Int)) (ss : List Int) (w : World)

set_option maxHeartbeats 4000000 in
set_option maxRecDepth 100000 in
theorem kedge_any (i j : Nat) (h2 : Lists w a2 l2 c2 zss) (hi : i < l2) :
    Calls Try.prog 57 #[.agg #[.slice a1 l1 c1, .slice a2 l2 c2, .slice a3 l3 c3], .int .i64 (i : Nat), .int .i64 (j : Nat)] w fun e w' => e = .returned (.bool (gEd zss i j)) ∧ Below w.heap.size w w' := by
  have n1 := h2.hcap
  have n2 := h2.hmax
  have ba := (Below.refl w.heap.size w).alloc (Nat.le_refl _) (.cells #[.slice a1 l1 c1, .slice a2 l2 c2, .slice a3 l3 c3] 46)
  have T0 := three_new w (.slice a1 l1 c1) (.slice a2 l2 c2) (.slice a3 l3 c3) 46
  have x1 := T0.c1
  obtain ⟨b, o, e, hb, hc⟩ := (h2.below ba).hcell (by omega)
  subst e
  obtain ⟨ra, rl, rc, cr, hr⟩ := hc i hi
  have HRR := hid hr
  have rm := hr.hmax
  have rcp := hr.hcap
  have rlen := hr.hlen
  have HB := hid ba
  have i1 : (0 : Int) ≤ (i : Int) := by omega
  have i2 : (i : Int) < (l2 : Int) := by omega
  have HGD : Hid (gEd zss i j = inB (outZ i (zss.getD i [])) j) := hid rfl
  rw [HGD.out]
  clear h2 hc hr ba T0
  generalize zss.getD i [] = row at *
  have HO0 : Hid (rl = 0 → inB (outZ i row) j = ((i : Int) == (j : Int))) := hid (fun h0 => by unfold outZ; rw [if_pos (by omega)]; simp [inB])
  have HO1 : Hid (rl ≠ 0 → inB (outZ i row) j = inB row j) := hid (fun h0 => by unfold outZ; rw [if_neg (by omega)])
  generalize inB (outZ i row) j = bv at *
  go_enter Try.func57, Try.ntmps57
  go_wp2_with fail
  generalize hW : (w.alloc (.cells #[.slice a1 l1 c1, .slice (some ⟨b, o, none⟩) l2 c2, .slice a3 l3 c3] 46)) = W at *
  clear hW
  go_loopw [8] (fun x wq => ∃ k : Nat, k ≤ rl ∧ x = .int .i64 k ∧ wq = W ∧ Hid (∀ m, m < k → row.getD m 0 ≠ (j : Int))) (fun x _ => rl - (intOf x).toNat)
  case atStart => exact ⟨0, Nat.zero_le _, rfl, rfl, hid (fun m hm => by omega)⟩
  case round =>
    obtain ⟨k, hk, rfl, rfl, HN⟩ := hrel
    by_cases hlk : k < rl
    · obtain ⟨b', o', e, hb', hc'⟩ := HRR.out.hcell (by omega)
      subst e
      have ck := hc' k hlk
      have HM : Hid (row.getD k 0 ∈ row) := hid (by rw [List.getD, List.getElem?_eq_getElem (by omega)]; exact List.getElem_mem _)
      have HN2 : Hid (row.getD k 0 ≠ (j : Int) → ∀ m, m < k + 1 → row.getD m 0 ≠ (j : Int)) := hid (fun h m hm => by
        by_cases e : m = k
        · subst e; exact h
        · exact HN.out m (by omega))
      have HY : Hid (row.getD k 0 = (j : Int) → bv = true) := hid (fun h => by rw [HO1.out (by omega)]; exact inB_iff.2 (by rw [← h]; exact HM.out))
      have j1 : (0 : Int) ≤ (k : Int) := by omega
      have j2 : (k : Int) < (rl : Int) := by omega
      clear hc' HM
      generalize row.getD k 0 = z at *
      by_cases ez : z = (j : Int)
      · have HE := hid (HY.out ez)
        have zz : (z == (j : Int)) = true := by simp [ez]
        clear ez
        go_wp2_with fail
        go_ret
        exact ⟨by rw [HE.out]; rfl, HB.out⟩
      · have HS := hid (HN2.out ez)
        have zz : (z == (j : Int)) = false := beq_eq_false_iff_ne.2 ez
        clear ez
        go_wp2_with fail
        go_roundw
        case rel => exact ⟨k + 1, by omega, by go_num, by first | rfl | trivial, HS⟩
        case measure => simp [intOf] <;> omega
    · obtain rfl : k = rl := by omega
      by_cases h0 : k = 0
      · have HE := hid (HO0.out h0)
        have z0 : ((k : Int) == 0) = true := by simp [h0]
        clear h0
        go_wp2_with fail
        go_ret
        exact ⟨by rw [HE.out]; first | rfl | simp, HB.out⟩
      · have HE : Hid (bv = false) := hid (by
          rw [HO1.out h0]
          cases e : inB row j with
          | false => rfl
          | true =>
            obtain ⟨m, hm, e2⟩ := List.getElem_of_mem (inB_iff.1 e)
            have := HN.out m (by omega)
            rw [List.getD, List.getElem?_eq_getElem hm] at this
            simp [e2] at this)
        have z0 : ((k : Int) == 0) = false := beq_eq_false_iff_ne.2 (by omega)
        clear h0
        go_wp2_with fail
        go_ret
        exact ⟨by rw [HE.out]; rfl, HB.out⟩

set_option maxHeartbeats 4000000 in
set_option maxRecDepth 100000 in
theorem kletters_any (a4 : Option Addr) (l4 c4 : Nat) (S : List Nat) (h1 : Ints w a1 l1 c1 zs) (h4 : Ints w a4 l4 c4 (intsOf S)) (hal : allL zs = true) (hS : ∀ x ∈ S, x < l1) (h20 : l4 ≤ 20000) :
    Calls Try.prog 28 #[.agg #[.slice a1 l1 c1, .slice a2 l2 c2, .slice a3 l3 c3], .slice a4 l4 c4] w (Made (S.map (gLt zs)) w) := by
  have L1 := h1.hlen
  have L4 : S.length = l4 := by rw [← intsOf_len]; exact h4.hlen
  have HLL := hid L1
  have HL4 := hid L4
  have HAL := hid hal
  have m1 := h1.hcap
  have m2 := h1.hmax
  have p4 := h4.hcap
  have p4' := h4.hmax
  have ba := (Below.refl w.heap.size w).alloc (Nat.le_refl _) (.cells #[.slice a1 l1 c1, .slice a2 l2 c2, .slice a3 l3 c3] 46)
  have T0 := hid (three_new w (.slice a1 l1 c1) (.slice a2 l2 c2) (.slice a3 l3 c3) 46)
  have J1 := hid (h1.below ba)
  have J4 := hid (h4.below ba)
  have HB0 := hid ba
  have HS8 := hid hS
  obtain ⟨i0, hi, hz0, hz1, hz2⟩ := info_parts Try.infoInt
  clear h1 h4 ba L1 L4 hal hS
  go_enter Try.func28, Try.ntmps28
  go_wp2_with fail
  have hGl : w.heap.size < (w.alloc (.cells #[.slice a1 l1 c1, .slice a2 l2 c2, .slice a3 l3 c3] 46)).heap.size := by simp
  have hGm : w.heap.size ≤ (w.alloc (.cells #[.slice a1 l1 c1, .slice a2 l2 c2, .slice a3 l3 c3] 46)).heap.size := by simp
  generalize hW : (w.alloc (.cells #[.slice a1 l1 c1, .slice a2 l2 c2, .slice a3 l3 c3] 46)) = W0 at *
  clear hW
  have x0 := T0.out.c0
  go_loopw [5, 6] (fun v i wq => ∃ (k : Nat) (vL : Value), k ≤ l4 ∧ vL = v ∧ i = .int .i64 k ∧ Hid (wq.ownsRow W0.heap.size 3 1 v k (natInts (ltsTo (gLt zs) S k))) ∧ Hid (Below W0.heap.size W0 wq)) (fun _ i _ => l4 - (intOf i).toNat)
  case atStart => exact ⟨0, _, Nat.zero_le _, rfl, rfl, hid (World.ownsRow_nil _ _ _ _), hid (Below.refl _ _)⟩
  case round =>
    obtain ⟨k, vL, hk, rfl, rfl, HO, HB⟩ := hrel
    rename World => W1
    have hs1 := HB.out.size
    by_cases hlk : k < l4
    · obtain ⟨gP, oP, e, hgP, hcP⟩ := J4.out.hcell (by omega)
      subst e
      have hlA : k < S.length := by rw [HL4.out]; exact hlk
      have ck := (HB.out.cell (p := ⟨gP, oP + k, none⟩) hgP).trans (hcP k hlk)
      rw [show (intsOf S).getD k 0 = ((S.getD k 0 : Nat) : Int) by
        unfold intsOf
        rw [List.getD, List.getD, List.getElem?_map, List.getElem?_eq_getElem hlA]
        rfl] at ck
      have hx : S.getD k 0 < l1 := HS8.out _ (by rw [List.getD, List.getElem?_eq_getElem hlA]; exact List.getElem_mem _)
      obtain ⟨bL, oL, e, hbL, hcL⟩ := J1.out.hcell (by omega)
      subst e
      have cL := (HB.out.cell (p := ⟨bL, oL + S.getD k 0, none⟩) hbL).trans (hcL _ hx)
      rw [show zs.getD (S.getD k 0) 0 = ((gLt zs (S.getD k 0) : Nat) : Int) by
        have h8 := isL_iff.1 (allL_at HAL.out (j := S.getD k 0) (by rw [HLL.out]; exact hx))
        unfold gLt
        rw [Int.toNat_of_nonneg h8.1]] at cL
      have x0' := (HB.out.cell (p := ⟨w.heap.size, 0, none⟩) hGl).trans x0
      have HSU := hid (ltsTo_succ (lt := gLt zs) hlA)
      have own7 := HO.out
      clear hcP hcL
      generalize S.getD k 0 = x at *
      generalize gLt zs x = lx at *
      have i1 : (0 : Int) ≤ (k : Int) := by omega
      have i2 : (k : Int) < (l4 : Int) := by omega
      have i4 : (0 : Int) ≤ (x : Int) := by omega
      have i5 : (x : Int) < (l1 : Int) := by omega
      go_wp2_with fail
      go_region_law ((refine step_append_lies _ (by rfl) (.tmp 13) (.tmp 22) 22 (by rfl) W0.heap.size 3 i0 (.int .i64 0) 1 8 Try.underlying22 hi hz0 hz1 hz2 rfl (by decide) vL k (natInts (ltsTo (gLt zs) S k)) (by rfl) (own7.alloc _).drew ⟨W1.heap.size, 0, none⟩ 1 1 [.int .i64 lx] (by rfl) (by rfl) (World.news_of_block (cs := #[.int .i64 lx]) (t := 3) (fr := (0, 0)) (heap_alloc_last W1 _)) (by simp [Value.oneCell']) (by decide) (by unfold maxLen; omega) (by omega) (by simp; omega) _ rfl ?_; intro gg cc w8 hown hgrow hat hlt1))
      all_goals
        have bw8 : Below W0.heap.size W1 w8 := (below_drewN ((Below.refl W0.heap.size W1).alloc hs1 (.cells #[.int .i64 lx] 3)) 1).grown hgrow (by show W0.heap.size ≤ (W1.alloc (.cells #[.int .i64 lx] 3)).heap.size; rw [World.size_alloc]; omega) (fun k h => (own7.lt k h).1)
        have e1 : natInts (ltsTo (gLt zs) S k) ++ [.int .i64 (lx : Nat)] = natInts (ltsTo (gLt zs) S (k + 1)) := by rw [HSU.out]; simp [natInts]
        rw [e1] at hown
        have HO8 := hid hown
        have HB8 := hid (HB.out.trans bw8)
        clear hown hgrow hat bw8 own7 HB HO e1
        go_wp2_with fail
        go_roundw
        case rel => exact ⟨k + 1, _, by omega, rfl, by go_num, HO8, HB8⟩
        case measure => simp [intOf]; omega
    · obtain rfl : k = l4 := by omega
      have own9 := HO.out
      rw [← HL4.out, ltsTo_all] at own9
      obtain ⟨ao, capL, rfl, hIL⟩ := own_ints own9 (by rw [List.length_map])
      have HIL := hid hIL
      have HBW := hid (HB0.out.trans (HB.out.mono hGm))
      have HLM : Hid ((S.map (gLt zs)).length = S.length) := hid (by rw [List.length_map])
      clear own9 hIL HO HB
      go_wp2_with fail
      go_ret
      unfold Made
      rw [HLM.out]
      exact ⟨ao, capL, rfl, HIL.out, HBW.out⟩
end

end Go.Proofs.Ytjagijohfkffiab
