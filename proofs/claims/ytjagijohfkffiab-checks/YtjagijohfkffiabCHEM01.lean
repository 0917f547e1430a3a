import Derived.RowKit
import Derived.Test.YtjagijohfkffiabRows
import Derived.WalkKit
import Derived.WalkSmall
import Derived.BigQuiet
import Derived.WalkSpells
import Derived.Deep.WholeRow
import Derived.Laws.CopyRow

/- Plain mathematics: formulas as lists of nodes, as both readers list them. Nothing of the dump. -/
namespace Go.Proofs.Ytjagijohfkffiab

/-- One sign of a formula; l, r: the numbers of the nodes below it. -/
structure Nd where
  op : Nat
  l : Nat
  r : Nat

/-- The byte at a place; 0 behind the end. -/
def bt (s : ByteArray) (i : Nat) : Nat := if h : i < s.size then (s[i]'h).toNat else 0

theorem bt_in {s : ByteArray} {i : Nat} (h : i < s.size) : bt s i = (s[i]'h).toNat := by simp [bt, h]
theorem bt_out {s : ByteArray} {i : Nat} (h : ¬ i < s.size) : bt s i = 0 := by simp [bt, h]
theorem bt_lt {s : ByteArray} {i : Nat} (h : bt s i ≠ 0) : i < s.size := by
  by_cases k : i < s.size
  · exact k
  · exact absurd (bt_out k) h
theorem bt_256 (s : ByteArray) (i : Nat) : bt s i < 256 := by
  by_cases k : i < s.size
  · rw [bt_in k]; exact UInt8.toNat_lt _
  · rw [bt_out k]; omega

def leafB (b : Nat) : Bool := b == 48 || b == 49 || b == 112 || b == 113 || b == 114
def oneB (b : Nat) : Bool := b == 33 || b == 88 || b == 70 || b == 71
def twoB (b : Nat) : Bool := b == 38 || b == 124 || b == 85 || b == 82

/-- Both readers: from place a, with ns already listed; fuel k. -/
def ps : Nat → ByteArray → Nat → List Nd → Option (Nat × List Nd)
  | 0, _, _, _ => none
  | k + 1, s, a, ns =>
    if leafB (bt s a) then some (a + 1, ns ++ [⟨bt s a, 0, 0⟩])
    else if oneB (bt s a) then
      match ps k s (a + 1) ns with
      | none => none
      | some (a1, n1) => some (a1, n1 ++ [⟨bt s a, n1.length - 1, 0⟩])
    else if bt s a = 40 then
      match ps k s (a + 1) ns with
      | none => none
      | some (a1, n1) =>
        if twoB (bt s a1) then
          match ps k s (a1 + 1) n1 with
          | none => none
          | some (a2, n2) => if bt s a2 = 41 then some (a2 + 1, n2 ++ [⟨bt s a1, n1.length - 1, n2.length - 1⟩]) else none
        else none
    else none

/-- What stands behind an opening bracket, the bracket taken. -/
def ps2 (k : Nat) (s : ByteArray) (a : Nat) (ns : List Nd) : Option (Nat × List Nd) :=
  match ps k s a ns with
  | none => none
  | some (a1, n1) =>
    if twoB (bt s a1) then
      match ps k s (a1 + 1) n1 with
      | none => none
      | some (a2, n2) => if bt s a2 = 41 then some (a2 + 1, n2 ++ [⟨bt s a1, n1.length - 1, n2.length - 1⟩]) else none
    else none

/-- What stands behind a sign for one formula, the sign taken. -/
def ps1 (op : Nat) (k : Nat) (s : ByteArray) (a : Nat) (ns : List Nd) : Option (Nat × List Nd) :=
  match ps k s a ns with
  | none => none
  | some (a1, n1) => some (a1, n1 ++ [⟨op, n1.length - 1, 0⟩])

theorem ps_leaf {k : Nat} {s : ByteArray} {a : Nat} {ns : List Nd} (h : leafB (bt s a) = true) : ps (k + 1) s a ns = some (a + 1, ns ++ [⟨bt s a, 0, 0⟩]) := by
  simp [ps, h]
theorem leaf_not_one {b : Nat} (h : oneB b = true) : leafB b = false := by
  simp only [oneB, Bool.or_eq_true, beq_iff_eq] at h
  rcases h with ((h | h) | h) | h <;> subst h <;> decide
theorem ps_one {k : Nat} {s : ByteArray} {a : Nat} {ns : List Nd} (h : oneB (bt s a) = true) : ps (k + 1) s a ns = ps1 (bt s a) k s (a + 1) ns := by
  simp [ps, h, leaf_not_one h, ps1]
theorem ps_two {k : Nat} {s : ByteArray} {a : Nat} {ns : List Nd} (h : bt s a = 40) : ps (k + 1) s a ns = ps2 k s (a + 1) ns := by
  simp [ps, h, ps2, leafB, oneB]
theorem ps_no {k : Nat} {s : ByteArray} {a : Nat} {ns : List Nd} (h1 : leafB (bt s a) = false) (h2 : oneB (bt s a) = false) (h3 : ¬ bt s a = 40) : ps (k + 1) s a ns = none := by
  simp [ps, h1, h2, h3]

theorem leaf_ne {b : Nat} (h : leafB b = true) : b ≠ 0 := by intro e; subst e; revert h; decide
theorem one_ne {b : Nat} (h : oneB b = true) : b ≠ 0 := by intro e; subst e; revert h; decide
theorem two_ne {b : Nat} (h : twoB b = true) : b ≠ 0 := by intro e; subst e; revert h; decide

/-- Where it ends, and how much longer the list is: no more than a node a byte. -/
theorem ps_grows : ∀ (k : Nat) (s : ByteArray) (a : Nat) (ns : List Nd) (a' : Nat) (ns' : List Nd), ps k s a ns = some (a', ns') →
    a < a' ∧ a' ≤ s.size ∧ ns'.length + a ≤ ns.length + a' ∧ ns.length < ns'.length
  | 0, _, _, _, _, _, h => by simp [ps] at h
  | k + 1, s, a, ns, a', ns', h => by
    by_cases b1 : leafB (bt s a) = true
    · rw [ps_leaf b1] at h
      simp only [Option.some.injEq, Prod.mk.injEq] at h
      obtain ⟨rfl, rfl⟩ := h
      have := bt_lt (leaf_ne b1)
      simp; omega
    · rw [Bool.not_eq_true] at b1
      by_cases b2 : oneB (bt s a) = true
      · rw [ps_one b2] at h
        unfold ps1 at h
        cases e : ps k s (a + 1) ns with
        | none => rw [e] at h; simp at h
        | some x =>
          obtain ⟨a1, n1⟩ := x
          rw [e] at h
          simp only [Option.some.injEq, Prod.mk.injEq] at h
          obtain ⟨rfl, rfl⟩ := h
          have := ps_grows k s _ _ _ _ e
          simp; omega
      · rw [Bool.not_eq_true] at b2
        by_cases b3 : bt s a = 40
        · rw [ps_two b3] at h
          unfold ps2 at h
          cases e : ps k s (a + 1) ns with
          | none => rw [e] at h; simp at h
          | some x =>
            obtain ⟨a1, n1⟩ := x
            rw [e] at h
            simp only at h
            by_cases b4 : twoB (bt s a1) = true
            · rw [if_pos b4] at h
              cases e2 : ps k s (a1 + 1) n1 with
              | none => rw [e2] at h; simp at h
              | some x =>
                obtain ⟨a2, n2⟩ := x
                rw [e2] at h
                simp only at h
                by_cases b5 : bt s a2 = 41
                · rw [if_pos b5] at h
                  simp only [Option.some.injEq, Prod.mk.injEq] at h
                  obtain ⟨rfl, rfl⟩ := h
                  have g1 := ps_grows k s _ _ _ _ e
                  have g2 := ps_grows k s _ _ _ _ e2
                  have := bt_lt (s := s) (i := a2) (by omega)
                  simp; omega
                · rw [if_neg b5] at h; simp at h
            · rw [if_neg b4] at h; simp at h
        · rw [ps_no b1 b2 b3] at h; simp at h

/-- The nodes below a node stand ahead of it. -/
def Wf (ns : List Nd) : Prop := ∀ (i : Nat) (n : Nd), ns[i]? = some n → (leafB n.op = false → n.l < i) ∧ (twoB n.op = true → n.r < i)

theorem Wf.snoc {ns : List Nd} (h : Wf ns) (n : Nd) (h1 : leafB n.op = false → n.l < ns.length) (h2 : twoB n.op = true → n.r < ns.length) : Wf (ns ++ [n]) := by
  intro i m hm
  by_cases hi : i < ns.length
  · rw [List.getElem?_append_left hi] at hm
    exact h i m hm
  · rw [List.getElem?_append_right (by omega)] at hm
    have : i = ns.length := by
      have := (List.getElem?_eq_some_iff.1 hm).1
      simp at this; omega
    subst this
    simp at hm
    subst hm
    exact ⟨h1, h2⟩

theorem wf_nil : Wf [] := by intro i n h; simp at h

theorem one_not_two {b : Nat} (h : oneB b = true) : twoB b = false := by
  simp only [oneB, Bool.or_eq_true, beq_iff_eq] at h
  rcases h with ((h | h) | h) | h <;> subst h <;> decide
theorem leaf_not_two {b : Nat} (h : leafB b = true) : twoB b = false := by
  simp only [leafB, Bool.or_eq_true, beq_iff_eq] at h
  rcases h with (((h | h) | h) | h) | h <;> subst h <;> decide
theorem two_not_leaf {b : Nat} (h : twoB b = true) : leafB b = false := by
  simp only [twoB, Bool.or_eq_true, beq_iff_eq] at h
  rcases h with ((h | h) | h) | h <;> subst h <;> decide
theorem leaf_is {b : Nat} (h : leafB b = true) : b = 48 ∨ b = 49 ∨ b = 112 ∨ b = 113 ∨ b = 114 := by
  simpa [leafB, or_assoc] using h
theorem one_is {b : Nat} (h : oneB b = true) : b = 33 ∨ b = 88 ∨ b = 70 ∨ b = 71 := by
  simpa [oneB, or_assoc] using h
theorem two_is {b : Nat} (h : twoB b = true) : b = 38 ∨ b = 124 ∨ b = 85 ∨ b = 82 := by
  simpa [twoB, or_assoc] using h

/-- The cells of a node, of a list of nodes. -/
def flat (ns : List Nd) : List Value := ns.flatMap fun n => [.int .u8 n.op, .int .i64 n.l, .int .i64 n.r]
theorem flat_snoc (ns : List Nd) (n : Nd) : flat (ns ++ [n]) = flat ns ++ [.int .u8 n.op, .int .i64 n.l, .int .i64 n.r] := by simp [flat]
/-- How many of the first k bytes are no brackets. -/
def cntTo (s : ByteArray) : Nat → Nat
  | 0 => 0
  | k + 1 => cntTo s k + if bt s k = 40 ∨ bt s k = 41 then 0 else 1

theorem cntTo_le (s : ByteArray) (k : Nat) : cntTo s k ≤ k := by
  induction k with
  | zero => exact Nat.le_refl _
  | succ k ih => unfold cntTo; split <;> omega
theorem cnt_in {s : ByteArray} {k : Nat} (h : bt s k ≠ 40) (h2 : bt s k ≠ 41) : cntTo s (k + 1) = cntTo s k + 1 := by
  simp only [cntTo]; rw [if_neg (by omega)]
theorem cnt_out {s : ByteArray} {k : Nat} (h : bt s k = 40 ∨ bt s k = 41) : cntTo s (k + 1) = cntTo s k := by
  simp only [cntTo]; rw [if_pos h]; rfl

theorem ps_cnt : ∀ (k : Nat) (s : ByteArray) (a : Nat) (ns : List Nd) (a' : Nat) (ns' : List Nd), ps k s a ns = some (a', ns') → ns'.length + cntTo s a = ns.length + cntTo s a'
  | 0, _, _, _, _, _, h => by simp [ps] at h
  | k + 1, s, a, ns, a', ns', h => by
    by_cases b1 : leafB (bt s a) = true
    · rw [ps_leaf b1] at h
      simp only [Option.some.injEq, Prod.mk.injEq] at h
      obtain ⟨rfl, rfl⟩ := h
      have := leaf_is b1
      rw [cnt_in (by omega) (by omega)]
      simp; omega
    · rw [Bool.not_eq_true] at b1
      by_cases b2 : oneB (bt s a) = true
      · rw [ps_one b2] at h
        unfold ps1 at h
        cases e : ps k s (a + 1) ns with
        | none => rw [e] at h; simp at h
        | some x =>
          obtain ⟨a1, n1⟩ := x
          rw [e] at h
          simp only [Option.some.injEq, Prod.mk.injEq] at h
          obtain ⟨rfl, rfl⟩ := h
          have g := ps_cnt k s _ _ _ _ e
          have := one_is b2
          rw [cnt_in (by omega) (by omega)] at g
          simp; omega
      · rw [Bool.not_eq_true] at b2
        by_cases b3 : bt s a = 40
        · rw [ps_two b3] at h
          unfold ps2 at h
          cases e : ps k s (a + 1) ns with
          | none => rw [e] at h; simp at h
          | some x =>
            obtain ⟨a1, n1⟩ := x
            rw [e] at h
            simp only at h
            by_cases b4 : twoB (bt s a1) = true
            · rw [if_pos b4] at h
              cases e2 : ps k s (a1 + 1) n1 with
              | none => rw [e2] at h; simp at h
              | some x =>
                obtain ⟨a2, n2⟩ := x
                rw [e2] at h
                simp only at h
                by_cases b5 : bt s a2 = 41
                · rw [if_pos b5] at h
                  simp only [Option.some.injEq, Prod.mk.injEq] at h
                  obtain ⟨rfl, rfl⟩ := h
                  have g1 := ps_cnt k s _ _ _ _ e
                  have g2 := ps_cnt k s _ _ _ _ e2
                  have := two_is b4
                  rw [cnt_out (Or.inl b3)] at g1
                  rw [cnt_in (by omega) (by omega)] at g2
                  rw [cnt_out (Or.inr b5)]
                  simp; omega
                · rw [if_neg b5] at h; simp at h
            · rw [if_neg b4] at h; simp at h
        · rw [ps_no b1 b2 b3] at h; simp at h

/-- A formula's text: the error (0: none) and the nodes. -/
def parseOf (s : ByteArray) : Nat × List Nd :=
  if 24 < s.size then (1, []) else
  match ps 25 s 0 [] with
  | none => (2, [])
  | some (a, ns) => if a = s.size then (if 8 < ns.length then (3, []) else (0, ns)) else (2, [])

end Go.Proofs.Ytjagijohfkffiab

/- The walks of the program's reader: take, add, joins. -/
namespace Go.Proofs.Ytjagijohfkffiab
open Go.RowKit
set_option linter.unusedVariables false

theorem Try.infoNode : (Try.prog.info? 124).map (fun i => (i.zero, i.size, i.bytes)) = some (some (.agg #[.int .u8 0, .int .i64 0, .int .i64 0]), 3, 24) := by kernel_rfl

theorem hid {p : Prop} (h : p) : Hid p := h

theorem cell_three_new (w : World) (a b c : Value) (t : TypeId) : ∀ j u, [a, b, c][j]? = some u → (w.alloc (.cells #[a, b, c] t)).cell? ((⟨w.heap.size, 0, none⟩ : Addr).add j) = some u := by
  intro j u hj
  match j, hj with
  | 0, hj => simp at hj; subst hj; simp [Addr.add]
  | 1, hj => simp at hj; subst hj; simp [Addr.add]
  | 2, hj => simp at hj; subst hj; simp [Addr.add]
  | j + 3, hj => simp at hj

theorem own_mono {w : World} {B B' : Nat} {e : TypeId} {size : Nat} {v : Value} {n : Nat} {xs : List Value} (h : w.ownsRow B e size v n xs) (hb : B' ≤ B) : w.ownsRow B' e size v n xs := by
  obtain ⟨h1, h2⟩ := h
  rcases h2 with h2 | ⟨g, cap, cur, a, b, r⟩
  · exact ⟨h1, Or.inl h2⟩
  · exact ⟨h1, Or.inr ⟨g, cap, cur, a, Nat.le_trans hb b, r⟩⟩

/-- The reader at block R: text s, place a, nodes ns; the nodes' row lies behind R. -/
structure Rd (w : World) (R : Nat) (s : ByteArray) (a : Nat) (ns : List Nd) : Prop where
  c0 : w.cell? ⟨R, 0, none⟩ = some (.string s)
  c1 : w.cell? ⟨R, 1, none⟩ = some (.int .i64 a)
  c2 : ∃ ao cap, w.cell? ⟨R, 2, none⟩ = some (.slice ao ns.length cap) ∧ w.ownsRow (R + 1) 124 3 (.slice ao ns.length cap) ns.length (flat ns)
  f1 : w.frozen? ⟨R, 1, none⟩ = false
  f2 : w.frozen? ⟨R, 2, none⟩ = false

theorem Rd.lt {w : World} {R : Nat} {s : ByteArray} {a : Nat} {ns : List Nd} (h : Rd w R s a ns) : R < w.heap.size := World.block_lt_of_cell? w ⟨R, 0, none⟩ h.c0

theorem Rd.drewN {w : World} {R : Nat} {s : ByteArray} {a : Nat} {ns : List Nd} (h : Rd w R s a ns) (m : Nat) : Rd (w.drewN m) R s a ns :=
  ⟨h.c0, h.c1, h.c2, h.f1, h.f2⟩

/-- The place is moved on. -/
theorem Rd.moved {w : World} {R : Nat} {s : ByteArray} {a : Nat} {ns : List Nd} (h : Rd w R s a ns) (b : Nat) : Rd (w.setCell ⟨R, 1, none⟩ (.int .i64 b)) R s b ns := by
  obtain ⟨ao, cap, hc, ho⟩ := h.c2
  refine ⟨?_, ?_, ⟨ao, cap, ?_, ?_⟩, ?_, ?_⟩
  · rw [World.cell?_setCell_other _ _ _ _ (by simp)]; exact h.c0
  · exact World.cell?_setCell_same _ _ _ h.c1
  · rw [World.cell?_setCell_other _ _ _ _ (by simp)]; exact hc
  · exact ownsRow_setCell_below ho (by simp) _
  · rw [World.frozen?_setCell]; exact h.f1
  · rw [World.frozen?_setCell]; exact h.f2

/-- The nodes' row has grown, the value is stored. -/
theorem Rd.pushed {w w' : World} {R : Nat} {s : ByteArray} {a : Nat} {ns : List Nd} (h : Rd w R s a ns) (hb : Below (R + 1) w w') (ms : List Nd) (ao : Option Addr) (cap : Nat)
    (ho : w'.ownsRow (R + 1) 124 3 (.slice ao ms.length cap) ms.length (flat ms)) : Rd (w'.setCell ⟨R, 2, none⟩ (.slice ao ms.length cap)) R s a ms := by
  have hR : R < R + 1 := Nat.lt_succ_self _
  obtain ⟨_, _, hc, _⟩ := h.c2
  refine ⟨?_, ?_, ⟨ao, cap, ?_, ?_⟩, ?_, ?_⟩
  · rw [World.cell?_setCell_other _ _ _ _ (by simp), hb.cell hR]; exact h.c0
  · rw [World.cell?_setCell_other _ _ _ _ (by simp), hb.cell hR]; exact h.c1
  · exact World.cell?_setCell_same _ _ _ ((hb.cell (p := ⟨R, 2, none⟩) hR).trans hc)
  · exact ownsRow_setCell_below ho (by simp) _
  · rw [World.frozen?_setCell, hb.frozen hR]; exact h.f1
  · rw [World.frozen?_setCell, hb.frozen hR]; exact h.f2

set_option maxHeartbeats 400000 in
theorem take_in (R a : Nat) (s : ByteArray) (ns : List Nd) (w : World) (hs : s.size ≤ 24) (hlt : a < s.size) (hr : Rd w R s a ns) :
    Calls Try.prog 100 #[.pointer (some ⟨R, 0, none⟩)] w fun e w' => e = .returned (.int .u8 (bt s a)) ∧ Rd w' R s (a + 1) ns ∧ Below R w w' := by
  have c0 := hr.c0
  have c1 := hr.c1
  have f1 := hr.f1
  have hd : decide ((a : Int) < 0) = false := by simp
  have hd2 : decide ((s.size : Int) ≤ (a : Int)) = false := by simp; omega
  go_enter Try.func100, Try.ntmps100
  go_wp2
  go_quiet (fail)
  go_wp2
  go_quiet (fail)
  go_wp2
  go_ret
  refine ⟨by rw [bt_in hlt]; rfl, ?_, ?_⟩
  · exact (hr.drewN _).moved (a + 1)
  · exact (below_drewN (Below.refl R w) _).setCell (p := ⟨R, 1, none⟩) (Nat.le_refl _) _

set_option maxHeartbeats 400000 in
theorem take_out (R a : Nat) (s : ByteArray) (ns : List Nd) (w : World) (hs : s.size ≤ 24) (hlt : ¬ a < s.size) (ha : a ≤ s.size) (hr : Rd w R s a ns) :
    Calls Try.prog 100 #[.pointer (some ⟨R, 0, none⟩)] w fun e w' => e = .returned (.int .u8 (bt s a)) ∧ Rd w' R s a ns ∧ Below R w w' := by
  have c0 := hr.c0
  have c1 := hr.c1
  have f1 := hr.f1
  have hd : decide ((a : Int) < 0) = false := by simp
  have hd2 : decide ((s.size : Int) ≤ (a : Int)) = true := by simp; omega
  go_enter Try.func100, Try.ntmps100
  go_wp2
  go_quiet (fail)
  go_wp2
  go_ret
  refine ⟨by rw [bt_out hlt]; rfl, hr.drewN _, below_drewN (Below.refl _ _) _⟩

/-- The place behind a byte that was asked for. -/
def nxt (s : ByteArray) (a : Nat) : Nat := if a < s.size then a + 1 else a

theorem take_any (R a : Nat) (s : ByteArray) (ns : List Nd) (w : World) (hs : s.size ≤ 24) (ha : a ≤ s.size) (hr : Rd w R s a ns) :
    Calls Try.prog 100 #[.pointer (some ⟨R, 0, none⟩)] w fun e w' => e = .returned (.int .u8 (bt s a)) ∧ Rd w' R s (nxt s a) ns ∧ Below R w w' := by
  unfold nxt
  by_cases h : a < s.size
  · rw [if_pos h]; exact take_in R a s ns w hs h hr
  · rw [if_neg h]; exact take_out R a s ns w hs h ha hr

set_option maxHeartbeats 400000 in
set_option maxRecDepth 100000 in
theorem add_any (R a : Nat) (op l r : Int) (s : ByteArray) (ns : List Nd) (w : World) (hn : ns.length ≤ 1000) (ho : 0 ≤ op) (hl : 0 ≤ l) (hr0 : 0 ≤ r) (hr : Rd w R s a ns) :
    Calls Try.prog 101 #[.pointer (some ⟨R, 0, none⟩), .int .u8 op, .int .i64 l, .int .i64 r] w fun e w' => e = .returned (.tuple #[]) ∧ Rd w' R s a (ns ++ [⟨op.toNat, l.toNat, r.toNat⟩]) ∧ Below R w w' := by
  obtain ⟨on, rfl⟩ := Int.eq_ofNat_of_zero_le ho
  obtain ⟨ln, rfl⟩ := Int.eq_ofNat_of_zero_le hl
  obtain ⟨rn, rfl⟩ := Int.eq_ofNat_of_zero_le hr0
  simp only [Int.toNat_natCast]
  obtain ⟨ao, cap, c2, own⟩ := hr.c2
  have f2 := hr.f2
  have hR := hr.lt
  obtain ⟨i0, hi, hz0, hz1, hz2⟩ := info_parts Try.infoNode
  go_enter Try.func101, Try.ntmps101
  go_wp2_with (at_builtin; refine wpList_append_own _ rfl (.tmp 12) (.tmp 17) 60 rfl (R + 1) 124 i0 (.agg #[.int .u8 0, .int .i64 0, .int .i64 0]) 3 24 Try.underlying60 hi hz0 hz1 hz2 rfl (by decide) _ _ _ rfl (own.alloc _) ⟨w.heap.size, 0, none⟩ 1 1 [.int .u8 on, .int .i64 ln, .int .i64 rn] rfl rfl ?c1 ?c2 ?c3 ?c4 ?c5 ?_)
  case c1 => exact cell_three_new _ _ _ _ _
  case c2 => intro u hu; simp at hu; rcases hu with rfl | rfl | rfl <;> rfl
  case c3 => unfold maxLen; omega
  case c4 => omega
  case c5 => simp; omega
  intro v' w1 hown hgrow _
  have hbel : Below (R + 1) w w1 := ((Below.refl _ _).alloc (by omega) _).grown hgrow (by simp; omega) (fun k h => (own.lt k h).1)
  have e1 : ns.length + 1 = (ns ++ [(⟨on, ln, rn⟩ : Nd)]).length := by simp
  have e2 : flat ns ++ [.int .u8 on, .int .i64 ln, .int .i64 rn] = flat (ns ++ [(⟨on, ln, rn⟩ : Nd)]) := (flat_snoc ns ⟨on, ln, rn⟩).symm
  rw [e2, e1] at hown
  obtain ⟨ao', cap', hv⟩ : ∃ ao' cap', v' = .slice ao' (ns ++ [(⟨on, ln, rn⟩ : Nd)]).length cap' := by
    rcases hown.2 with ⟨h, h0⟩ | ⟨g, cap', _, h, _⟩
    · simp at h0
    · exact ⟨_, cap', h⟩
  subst hv
  have P1 := hid (hr.pushed hbel _ ao' cap' hown)
  have k2 := (hbel.cell (p := ⟨R, 2, none⟩) (Nat.lt_succ_self _)).trans c2
  have g2 := (hbel.frozen (p := ⟨R, 2, none⟩) (Nat.lt_succ_self _)).trans f2
  have B1 := hid ((hbel.mono (Nat.le_succ R)).setCell (p := ⟨R, 2, none⟩) (Nat.le_refl _) (.slice ao' (ns ++ [(⟨on, ln, rn⟩ : Nd)]).length cap'))
  clear hown hgrow e1 e2 hbel own c2 f2
  go_wp2
  go_end0
  have q1 := P1.out
  have q2 := B1.out
  rw [List.length_append, List.length_singleton] at q1 q2
  exact ⟨rfl, q1, q2⟩


set_option maxHeartbeats 400000 in
theorem joins_any (b : Nat) (w : World) (hb : b < 256) : Calls Try.prog 125 #[.int .u8 b] w fun e w' => e = .returned (.bool (twoB b)) ∧ w' = w := by
  by_cases h1 : b = 38
  · subst h1
    go_enter Try.func125, Try.ntmps125
    go_wp2
    go_ret
    exact ⟨rfl, rfl⟩
  by_cases h2 : b = 124
  · subst h2
    go_enter Try.func125, Try.ntmps125
    go_wp2
    go_ret
    exact ⟨rfl, rfl⟩
  by_cases h3 : b = 85
  · subst h3
    go_enter Try.func125, Try.ntmps125
    go_wp2
    go_ret
    exact ⟨rfl, rfl⟩
  by_cases h4 : b = 82
  · subst h4
    go_enter Try.func125, Try.ntmps125
    go_wp2
    go_ret
    exact ⟨rfl, rfl⟩
  have k1 : ((b : Int) == 38) = false := beq_eq_false_iff_ne.2 (by omega)
  have k2 : ((b : Int) == 124) = false := beq_eq_false_iff_ne.2 (by omega)
  have k3 : ((b : Int) == 85) = false := beq_eq_false_iff_ne.2 (by omega)
  have k4 : ((b : Int) == 82) = false := beq_eq_false_iff_ne.2 (by omega)
  have k5 : twoB b = false := by
    cases e : twoB b with
    | false => rfl
    | true => have := two_is e; omega
  go_enter Try.func125, Try.ntmps125
  go_wp2
  go_ret
  rw [k5]
  exact ⟨rfl, rfl⟩

end Go.Proofs.Ytjagijohfkffiab

/- Laws on arrays by value: a cell of an array; an array out of and into memory. -/
namespace Go.Proofs.Ytjagijohfkffiab
open Go.RowKit
set_option linter.unusedVariables false

theorem run_sizeOf {P : Program} {t : TypeId} {n : Nat} (h : (P.info? t).map (·.size) = some n) (w : World) : (sizeOf t).run P w = .ok n w := by
  cases hq : P.info? t with
  | none => simp [hq] at h
  | some i => simp [hq] at h; simp [sizeOf, typeInfo, hq, h]

theorem run_isAgg_bool {P : Program} {t : TypeId} (h : P.underlying t = some .bool) (w : World) : (isAgg t).run P w = .ok false w := by
  simp [isAgg, run_underlying h]
/-- x[j], x an array of one-cell elements that was taken by value. -/
theorem run_index_one {P : Program} {t e : TypeId} {len : Nat} {X : Array Value} {j : Nat} {v : Value} (w : World) (ht : P.underlying t = some (.array len e)) (he : ∀ w, (isAgg e).run P w = .ok false w) (hs : (P.info? e).map (·.size) = some 1)
    (hj : j < len) (hX : X[j]? = some v) : (Instr.index t (.agg X) (.int .i64 (j : Nat))).run P w = .ok v w := by
  have h0 : (0 : Int) ≤ (j : Int) ∧ (j : Int) < (len : Int) := by omega
  simp only [Instr.index, asIntOf, Sem.run_bind, Sem.run_pure, Result.andThen, run_underlying ht, if_pos h0, run_sizeOf hs, part, he]
  simp [hX]

end Go.Proofs.Ytjagijohfkffiab
