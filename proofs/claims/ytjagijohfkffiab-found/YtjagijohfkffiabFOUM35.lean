import Derived.Test.YtjagijohfkffiabFOUM16
import Derived.Test.YtjagijohfkffiabFOUM18
import Derived.Test.YtjagijohfkffiabFOUM21
import Derived.Test.YtjagijohfkffiabFOUM25
import Derived.Deep.RegionHeld3
import Derived.Deep.QuietTactic
import Derived.BigQuiet
import Derived.Deep.RegionLaw
import Derived.Deep.DrawnRows

/- Plain mathematics: a formula that is composed of others. -/
namespace Go.Proofs.Ytjagijohfkffiab

/-- A node, its numbers moved on by b. -/
def shiftNd (b : Nat) (n : Nd) : Nd := if leafB n.op then ⟨n.op, 0, 0⟩ else if oneB n.op then ⟨n.op, n.l + b, 0⟩ else ⟨n.op, n.l + b, n.r + b⟩

theorem shift_shift (a b : Nat) (n : Nd) : shiftNd a (shiftNd b n) = shiftNd (b + a) n := by
  unfold shiftNd
  cases h1 : leafB n.op with
  | true => simp [h1]
  | false =>
    cases h2 : oneB n.op with
    | true => simp [h1, h2, Nat.add_assoc]
    | false => simp [h1, h2, Nat.add_assoc]

theorem map_shift (a b : Nat) (ms : List Nd) : (ms.map (shiftNd b)).map (shiftNd a) = ms.map (shiftNd (b + a)) := by
  rw [List.map_map]
  apply List.map_congr_left
  intro n _
  exact shift_shift a b n

/-- What is read in one text is read in another that has the same bytes there. -/
theorem ps_move : ∀ (k : Nat) (s : ByteArray) (a : Nat) (ns : List Nd) (a' : Nat) (ns' : List Nd), ps k s a ns = some (a', ns') →
    ∃ ms, ms ≠ [] ∧ ns' = ns ++ ms.map (shiftNd ns.length) ∧ ∀ (t : ByteArray) (d j : Nat) (ns2 : List Nd), (∀ i, a ≤ i → i < a' → bt t (i + d) = bt s i) → a' - a ≤ j → ps j t (a + d) ns2 = some (a' + d, ns2 ++ ms.map (shiftNd ns2.length))
  | 0, _, _, _, _, _, h => by simp [ps] at h
  | k + 1, s, a, ns, a', ns', h => by
    have g := ps_grows _ _ _ _ _ _ h
    by_cases b1 : leafB (bt s a) = true
    · rw [ps_leaf b1] at h
      simp only [Option.some.injEq, Prod.mk.injEq] at h
      obtain ⟨rfl, rfl⟩ := h
      refine ⟨[⟨bt s a, 0, 0⟩], by simp, by simp [shiftNd, b1], ?_⟩
      intro t d j ns2 hb hj
      obtain ⟨j', rfl⟩ : ∃ j', j = j' + 1 := ⟨j - 1, by omega⟩
      have e := hb a (Nat.le_refl _) (by omega)
      rw [ps_leaf (by rw [e]; exact b1), e]
      simp [shiftNd, b1, Nat.add_right_comm]
    · rw [Bool.not_eq_true] at b1
      by_cases b2 : oneB (bt s a) = true
      · rw [ps_one b2] at h
        unfold ps1 at h
        cases e : ps k s (a + 1) ns with
        | none => rw [e] at h; simp at h
        | some x =>
          obtain ⟨a1, n1⟩ := x
          rw [e] at h
          simp only [Option.some.injEq, Prod.mk.injEq] at h
          obtain ⟨rfl, rfl⟩ := h
          obtain ⟨m1, hne, h1, h2⟩ := ps_move k s _ _ _ _ e
          have hp : 0 < m1.length := List.length_pos_iff.2 hne
          refine ⟨m1 ++ [⟨bt s a, m1.length - 1, 0⟩], by simp, ?_, ?_⟩
          · rw [h1]
            simp [shiftNd, b1, b2]
            omega
          · intro t d j ns2 hb hj
            obtain ⟨j', rfl⟩ : ∃ j', j = j' + 1 := ⟨j - 1, by omega⟩
            have e0 := hb a (Nat.le_refl _) (by omega)
            have e1 := h2 t d j' ns2 (fun i hi1 hi2 => hb i (by omega) hi2) (by omega)
            rw [ps_one (by rw [e0]; exact b2), e0, ps1, show a + d + 1 = a + 1 + d by omega, e1]
            simp [shiftNd, b1, b2]
            omega
      · rw [Bool.not_eq_true] at b2
        by_cases b3 : bt s a = 40
        · rw [ps_two b3] at h
          unfold ps2 at h
          cases e : ps k s (a + 1) ns with
          | none => rw [e] at h; simp at h
          | some x =>
            obtain ⟨a1, n1⟩ := x
            rw [e] at h
            simp only at h
            by_cases b4 : twoB (bt s a1) = true
            · rw [if_pos b4] at h
              cases e2 : ps k s (a1 + 1) n1 with
              | none => rw [e2] at h; simp at h
              | some x =>
                obtain ⟨a2, n2⟩ := x
                rw [e2] at h
                simp only at h
                by_cases b5 : bt s a2 = 41
                · rw [if_pos b5] at h
                  simp only [Option.some.injEq, Prod.mk.injEq] at h
                  obtain ⟨rfl, rfl⟩ := h
                  have g1 := ps_grows _ _ _ _ _ _ e
                  have g2 := ps_grows _ _ _ _ _ _ e2
                  obtain ⟨m1, hne1, h1, h2⟩ := ps_move k s _ _ _ _ e
                  obtain ⟨m2, hne2, h3, h4⟩ := ps_move k s _ _ _ _ e2
                  have hp1 : 0 < m1.length := List.length_pos_iff.2 hne1
                  have hp2 : 0 < m2.length := List.length_pos_iff.2 hne2
                  have c1 := two_not_leaf b4
                  have c2 : oneB (bt s a1) = false := by
                    cases c : oneB (bt s a1) with
                    | false => rfl
                    | true => rw [one_not_two c] at b4; simp at b4
                  refine ⟨m1 ++ m2.map (shiftNd m1.length) ++ [⟨bt s a1, m1.length - 1, m1.length + m2.length - 1⟩], by simp, ?_, ?_⟩
                  · rw [h3, h1]
                    simp only [List.map_append, map_shift, List.length_append, List.length_map, List.append_assoc, List.map_cons, List.map_nil]
                    rw [show ns.length + m1.length = m1.length + ns.length by omega]
                    simp only [shiftNd, c1, c2, Bool.false_eq_true, if_false]
                    rw [show m1.length + ns.length - 1 = m1.length - 1 + ns.length by omega, show ns.length + (m1.length + m2.length) - 1 = m1.length + m2.length - 1 + ns.length by omega]
                  · intro t d j ns2 hb hj
                    obtain ⟨j', rfl⟩ : ∃ j', j = j' + 1 := ⟨j - 1, by omega⟩
                    have e0 := hb a (Nat.le_refl _) (by omega)
                    have e1 := h2 t d j' ns2 (fun i hi1 hi2 => hb i (by omega) (by omega)) (by omega)
                    have e3 := hb a1 (by omega) (by omega)
                    have e4 := h4 t d j' (ns2 ++ m1.map (shiftNd ns2.length)) (fun i hi1 hi2 => hb i (by omega) (by omega)) (by omega)
                    have e5 := hb a2 (by omega) (by omega)
                    rw [ps_two (by rw [e0]; exact b3), ps2, show a + d + 1 = a + 1 + d by omega, e1]
                    simp only
                    rw [e3, if_pos b4, show a1 + d + 1 = a1 + 1 + d by omega, e4]
                    simp only
                    rw [e5, if_pos b5]
                    simp only [List.map_append, map_shift, List.length_append, List.length_map, List.append_assoc, List.map_cons, List.map_nil]
                    rw [show ns2.length + m1.length = m1.length + ns2.length by omega]
                    simp only [shiftNd, c1, c2, Bool.false_eq_true, if_false]
                    rw [show m1.length + ns2.length - 1 = m1.length - 1 + ns2.length by omega, show ns2.length + (m1.length + m2.length) - 1 = m1.length + m2.length - 1 + ns2.length by omega, show a2 + 1 + d = a2 + d + 1 by omega]
                · rw [if_neg b5] at h; simp at h
            · rw [if_neg b4] at h; simp at h
        · rw [ps_no b1 b2 b3] at h; simp at h

end Go.Proofs.Ytjagijohfkffiab

/- Plain mathematics: what a composed formula is, and what it means. -/
namespace Go.Proofs.Ytjagijohfkffiab

theorem parse_ok {s : ByteArray} (h : (parseOf s).1 = 0) : s.size ≤ 24 ∧ ps 25 s 0 [] = some (s.size, (parseOf s).2) := by
  unfold parseOf at h ⊢
  split at h
  · simp at h
  · rename_i h1
    rw [if_neg h1]
    refine ⟨by omega, ?_⟩
    cases e : ps 25 s 0 [] with
    | none => rw [e] at h; simp at h
    | some x =>
      obtain ⟨a, ns⟩ := x
      rw [e] at h
      simp only at h ⊢
      split at h
      · rename_i h2
        rw [if_pos h2]
        split at h
        · simp at h
        · rename_i h3
          rw [if_neg h3, h2]
      · simp at h

theorem parse_of {s : ByteArray} {ns : List Nd} (hs : ¬ 24 < s.size) (h : ps 25 s 0 [] = some (s.size, ns)) : parseOf s = if 8 < ns.length then (3, []) else (0, ns) := by
  unfold parseOf
  rw [if_neg hs, h]
  simp

theorem parse_one {f t : ByteArray} {op : Nat} (hop : oneB op = true) (hf : (parseOf f).1 = 0) (hs : t.size = f.size + 1) (h0 : bt t 0 = op) (hi : ∀ i, i < f.size → bt t (i + 1) = bt f i) (hl : ¬ 24 < t.size) :
    parseOf t = if 8 < (parseOf f).2.length + 1 then (3, []) else (0, (parseOf f).2 ++ [⟨op, (parseOf f).2.length - 1, 0⟩]) := by
  obtain ⟨_, hp⟩ := parse_ok hf
  obtain ⟨ms, hne, e1, e2⟩ := ps_move _ _ _ _ _ _ hp
  have e3 := e2 t 1 24 [] (fun i _ h => hi i h) (by omega)
  simp only [List.nil_append, List.length_nil] at e1 e3
  rw [← e1] at e3
  have key : ps 25 t 0 [] = some (t.size, (parseOf f).2 ++ [⟨op, (parseOf f).2.length - 1, 0⟩]) := by
    rw [ps_one (k := 24) (by rw [h0]; exact hop), h0, ps1, show 0 + 1 = 0 + 1 from rfl, e3, hs]
  rw [parse_of hl key]
  simp

theorem it_one (s i : Nat) : it (fun i => i + 1) s i = i + s := by
  induction s generalizing i with
  | zero => rfl
  | succ s ih => simp only [it]; rw [ih]; omega

/-- What a composed formula means at the beginning. -/
def Comp (op : Nat) (F G : Nat → Prop) : Prop :=
  if op = 33 then ¬ F 0 else if op = 88 then F 1 else if op = 70 then ∃ s, F s else if op = 71 then ∀ s, F s
  else if op = 38 then F 0 ∧ G 0 else if op = 124 then F 0 ∨ G 0 else if op = 85 then ∃ s, G s ∧ ∀ m, m < s → F m else ∀ s, G s ∨ ∃ m, m < s ∧ F m

theorem sem_one {lt : Nat → Nat} {nf : List Nd} {op : Nat} (hop : oneB op = true) (G : Nat → Prop) : sem (fun i => i + 1) lt (nf ++ [⟨op, nf.length - 1, 0⟩]) nf.length 0 ↔ Comp op (sem (fun i => i + 1) lt nf (nf.length - 1)) G := by
  rw [sem_new]
  unfold den Comp sem
  rcases one_is hop with e | e | e | e <;> simp [e, it_one]

end Go.Proofs.Ytjagijohfkffiab

/- The walks of the sorting's find and add. -/
namespace Go.Proofs.Ytjagijohfkffiab
open Go.RowKit
set_option linter.unusedVariables false

end Go.Proofs.Ytjagijohfkffiab

/- The walk of the sorting's add (laid by gen_sadd.py). -/
namespace Go.Proofs.Ytjagijohfkffiab
open Go.RowKit
set_option linter.unusedVariables false

/-- A sorting in memory: the kinds, the shapes. -/
structure SoM (w : World) (B S : Nat) (vK vH : Value) (kds : List Nat) (ss : List St) : Prop where
  t : Two w S vK vH
  tB : S < B
  kd : w.ownsRow B 3 1 vK kds.length (nInts kds)
  sh : w.ownsRow B 137 9 vH ss.length (flatS ss)
  e8 : Eight ss
theorem SoM.below {w w' : World} {B S : Nat} {vK vH : Value} {kds : List Nat} {ss : List St} (h : SoM w B S vK vH kds ss) (hb : Below w.heap.size w w') : SoM w' B S vK vH kds ss :=
  ⟨h.t.below hb h.t.lt, h.tB, own_keeps h.kd hb, own_keeps h.sh hb, h.e8⟩

def CellsX (w : World) (o a0 a1 a2 a3 a4 a5 a6 a7 : Int) (W : World) : Prop := W.cell? ⟨w.heap.size, 0, none⟩ = some (.int .i64 o) ∧ W.cell? ⟨w.heap.size, 1, none⟩ = some (.int .i64 a0) ∧ W.cell? ⟨w.heap.size, 2, none⟩ = some (.int .i64 a1) ∧ W.cell? ⟨w.heap.size, 3, none⟩ = some (.int .i64 a2) ∧ W.cell? ⟨w.heap.size, 4, none⟩ = some (.int .i64 a3) ∧ W.cell? ⟨w.heap.size, 5, none⟩ = some (.int .i64 a4) ∧ W.cell? ⟨w.heap.size, 6, none⟩ = some (.int .i64 a5) ∧ W.cell? ⟨w.heap.size, 7, none⟩ = some (.int .i64 a6) ∧ W.cell? ⟨w.heap.size, 8, none⟩ = some (.int .i64 a7)
theorem CellsX.of {w W W' : World} {o a0 a1 a2 a3 a4 a5 a6 a7 : Int} (h : CellsX w o a0 a1 a2 a3 a4 a5 a6 a7 W) (hc : ∀ j, W'.cell? ⟨w.heap.size, j, none⟩ = W.cell? ⟨w.heap.size, j, none⟩) : CellsX w o a0 a1 a2 a3 a4 a5 a6 a7 W' :=
  ⟨(hc 0).trans h.1, (hc 1).trans h.2.1, (hc 2).trans h.2.2.1, (hc 3).trans h.2.2.2.1, (hc 4).trans h.2.2.2.2.1, (hc 5).trans h.2.2.2.2.2.1, (hc 6).trans h.2.2.2.2.2.2.1, (hc 7).trans h.2.2.2.2.2.2.2.1, (hc 8).trans h.2.2.2.2.2.2.2.2⟩

end Go.Proofs.Ytjagijohfkffiab

/- The walk of the sorting's refine. -/
namespace Go.Proofs.Ytjagijohfkffiab
open Go.RowKit
set_option linter.unusedVariables false

end Go.Proofs.Ytjagijohfkffiab

/- The walk of Smallest. -/
namespace Go.Proofs.Ytjagijohfkffiab
open Go.RowKit
set_option linter.unusedVariables false

section
variable {ns : List Nd} {liv : Nat → Bool} {us : List (List Nat)} {xs : List Nat}

end

end Go.Proofs.Ytjagijohfkffiab

/- Settled: the walk. -/
namespace Go.Proofs.Ytjagijohfkffiab
open Go.RowKit
set_option linter.unusedVariables false

end Go.Proofs.Ytjagijohfkffiab

/- The walks of verdictlaw's sameInts, sameLists, sameMachine: two that are alike. -/
namespace Go.Proofs.Ytjagijohfkffiab
open Go.RowKit
set_option linter.unusedVariables false

theorem Ints.drewN {w : World} {a : Option Addr} {l c : Nat} {zs : List Int} (h : Ints w a l c zs) (n : Nat) : Ints (w.drewN n) a l c zs := h.below (below_drewN (Below.refl _ _) n)

/-- The lists that came out, as they are read. -/
theorem Lies.ints {w : World} {B : Nat} {v1 v2 : Value} {V : Nat → Value} {ss : List St} {j : Nat} (h : Lies w B v1 v2 V ss j) : ∃ a c, v1 = .slice a j c ∧ Ints w a j c (outsTo ss j) := by
  have hl : (outsTo ss j).length = j := by simp [outsTo]
  rcases h.out.2 with ⟨rfl, rfl⟩ | ⟨g, cap, cur, rfl, hb, hh, hc, hm, _⟩
  · exact ⟨none, 0, rfl, hl, Nat.le_refl _, by omega, fun _ => ⟨rfl, rfl⟩, fun h => by omega⟩
  · refine ⟨_, cap, rfl, hl, hc, by unfold maxLen at hm; omega, fun h => by simp at h, fun _ => ⟨g, 0, rfl, (Array.getElem?_eq_some_iff.1 hh).1, fun i hi => ?_⟩⟩
    rw [Nat.zero_add, h.out.cellAt i (by omega)]
    simp [intVs, List.getD, List.getElem?_eq_getElem (show i < (outsTo ss j).length by omega)]
def nextTo (ss : List St) (j : Nat) : List (List Int) := (List.range j).map fun i => (stAt ss i).next
theorem own_row_ints {w : World} {B n : Nat} {v : Value} {zs : List Int} (h : w.ownsRow B 3 1 v n (intVs zs)) : ∃ a c, v = .slice a n c ∧ Ints w a n c zs := by
  have hl : zs.length = n := by have := h.1; simp [intVs] at this; exact this
  rcases h.2 with ⟨rfl, rfl⟩ | ⟨g, cap, cur, rfl, hb, hh, hc, hm, _⟩
  · exact ⟨none, 0, rfl, hl, Nat.le_refl _, by omega, fun _ => ⟨rfl, rfl⟩, fun h => by omega⟩
  · refine ⟨_, cap, rfl, hl, hc, by unfold maxLen at hm; omega, fun h => by simp at h, fun _ => ⟨g, 0, rfl, (Array.getElem?_eq_some_iff.1 hh).1, fun i hi => ?_⟩⟩
    rw [Nat.zero_add, h.cellAt i (by omega)]
    simp [intVs, List.getD, List.getElem?_eq_getElem (show i < zs.length by omega)]
theorem Lies.lists {w : World} {B : Nat} {v1 v2 : Value} {V : Nat → Value} {ss : List St} {j : Nat} (h : Lies w B v1 v2 V ss j) : ∃ a c, v2 = .slice a j c ∧ Lists w a j c (nextTo ss j) := by
  have hl : (nextTo ss j).length = j := by simp [nextTo]
  rcases h.nxt.2 with ⟨rfl, rfl⟩ | ⟨g, cap, cur, rfl, hb, hh, hc, hm, _⟩
  · exact ⟨none, 0, rfl, hl, Nat.le_refl _, by omega, fun _ => ⟨rfl, rfl⟩, fun h => by omega⟩
  · refine ⟨_, cap, rfl, hl, hc, by unfold maxLen at hm; omega, fun h => by simp at h, fun _ => ⟨g, 0, rfl, (Array.getElem?_eq_some_iff.1 hh).1, fun i hi => ?_⟩⟩
    obtain ⟨a, c, hv, hi2⟩ := own_row_ints (h.row i hi)
    refine ⟨a, 8, c, ?_, ?_⟩
    · rw [Nat.zero_add, h.nxt.cellAt i (by omega)]
      simp [List.getElem?_map, List.getElem?_range hi, hv]
    · rw [show (nextTo ss j).getD i [] = (stAt ss i).next by simp [nextTo, List.getD, List.getElem?_map, List.getElem?_range hi]]
      exact hi2

end Go.Proofs.Ytjagijohfkffiab

/- The walks of the reference's Formed and Write. -/
namespace Go.Proofs.Ytjagijohfkffiab
open Go.RowKit
set_option linter.unusedVariables false

section
variable (a1 a2 : Option Addr) (l1 c1 l2 c2 : Nat) (os : List Int) (ls : List (List Int)) (w : World)

end

end Go.Proofs.Ytjagijohfkffiab

/- The walk of the reference's Write; Writes' walk. -/
namespace Go.Proofs.Ytjagijohfkffiab
open Go.RowKit
set_option linter.unusedVariables false

section
variable (a1 a2 : Option Addr) (l1 c1 l2 c2 : Nat) (os : List Int) (ls : List (List Int)) (w : World)

end

end Go.Proofs.Ytjagijohfkffiab

/- The walk of the reference's Read. -/
namespace Go.Proofs.Ytjagijohfkffiab
open Go.RowKit
set_option linter.unusedVariables false
attribute [local go_sem ↓] Go.wp_at_zero Go.wp_at_succ

/-- The bytes from place a on. -/
def tail (s : ByteArray) (a : Nat) : ByteArray := s.extract a s.size
section
variable (s : ByteArray) (w : World)

end

end Go.Proofs.Ytjagijohfkffiab

/- Plain mathematics: the machine of a formula is well formed. -/
namespace Go.Proofs.Ytjagijohfkffiab
set_option linter.unusedVariables false

section
variable {ns : List Nd} {n : Nat} {out : Nat → Nat} {nx : Nat → Nat → Nat}

end

end Go.Proofs.Ytjagijohfkffiab

/- Plain mathematics: of !f all is the other way round. -/
namespace Go.Proofs.Ytjagijohfkffiab
set_option linter.unusedVariables false

/-- The nodes of !f. -/
def negN (ns : List Nd) : List Nd := ns ++ [⟨33, ns.length - 1, 0⟩]
theorem negN_len (ns : List Nd) : (negN ns).length = ns.length + 1 := by simp [negN]
def negT (s : ByteArray) : ByteArray := (⟨#[33]⟩ : ByteArray) ++ s
theorem negT_size (s : ByteArray) : (negT s).size = s.size + 1 := by
  unfold negT
  rw [ByteArray.size_append, Nat.add_comm]
  rfl
theorem btl (s : ByteArray) (i : Nat) : bt s i = (s.data.toList.getD i 0).toNat := by
  by_cases h : i < s.size
  · rw [bt_in h]
    have h2 : i < s.data.toList.length := by simpa using h
    rw [List.getD, List.getElem?_eq_getElem h2]
    simp
    rfl
  · rw [bt_out h]
    have h2 : s.data.toList.length ≤ i := by simpa using h
    rw [List.getD, List.getElem?_eq_none h2]
    rfl
theorem negT_list (s : ByteArray) : (negT s).data.toList = 33 :: s.data.toList := by simp [negT]
theorem parse_neg {s : ByteArray} (h0 : (parseOf s).1 = 0) (hn : (parseOf s).2.length < 8) (hs : s.size < 24) : parseOf (negT s) = (0, negN (parseOf s).2) := by
  have b0 : bt (negT s) 0 = 33 := by
    rw [btl, negT_list]
    rfl
  have bi : ∀ i, i < s.size → bt (negT s) (i + 1) = bt s i := fun i hi => by
    rw [btl, btl, negT_list]
    simp
  rw [parse_one (op := 33) rfl h0 (negT_size s) b0 bi (by rw [negT_size]; omega), if_neg (by omega)]
  rfl

section
variable {ns : List Nd}
theorem neg_sem (x : Nat → Nat) : sem (fun i => i + 1) x (negN ns) ((negN ns).length - 1) 0 ↔ ¬ sem (fun i => i + 1) x ns (ns.length - 1) 0 := by
  rw [negN_len, Nat.add_sub_cancel]
  exact sem_one rfl (fun _ => True)
end

/-! ### Kinds -/
section
variable {ns : List Nd} {n : Nat} {out : Nat → Nat} {nx : Nat → Nat → Nat}

end

end Go.Proofs.Ytjagijohfkffiab
