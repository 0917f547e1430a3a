import Derived.RowKit
import Derived.Test.YtjagijohfkffiabRows
import Derived.WalkKit
import Derived.WalkSmall
import Derived.BigQuiet
import Derived.WalkSpells
import Derived.Deep.WholeRow
import Derived.Laws.CopyRow

/- Plain mathematics: formulas as lists of nodes, as both readers list them. Nothing of the dump. -/
namespace Go.Proofs.Ytjagijohfkffiab

/-- One sign of a formula; l, r: the numbers of the nodes below it. -/
structure Nd where
  op : Nat
  l : Nat
  r : Nat

/-- The byte at a place; 0 behind the end. -/
def bt (s : ByteArray) (i : Nat) : Nat := if h : i < s.size then (s[i]'h).toNat else 0

theorem bt_in {s : ByteArray} {i : Nat} (h : i < s.size) : bt s i = (s[i]'h).toNat := by simp [bt, h]
theorem bt_out {s : ByteArray} {i : Nat} (h : ¬ i < s.size) : bt s i = 0 := by simp [bt, h]
theorem bt_lt {s : ByteArray} {i : Nat} (h : bt s i ≠ 0) : i < s.size := by
  by_cases k : i < s.size
  · exact k
  · exact absurd (bt_out k) h
theorem bt_256 (s : ByteArray) (i : Nat) : bt s i < 256 := by
  by_cases k : i < s.size
  · rw [bt_in k]; exact UInt8.toNat_lt _
  · rw [bt_out k]; omega

def leafB (b : Nat) : Bool := b == 48 || b == 49 || b == 112 || b == 113 || b == 114
def oneB (b : Nat) : Bool := b == 33 || b == 88 || b == 70 || b == 71
def twoB (b : Nat) : Bool := b == 38 || b == 124 || b == 85 || b == 82

/-- Both readers: from place a, with ns already listed; fuel k. -/
def ps : Nat → ByteArray → Nat → List Nd → Option (Nat × List Nd)
  | 0, _, _, _ => none
  | k + 1, s, a, ns =>
    if leafB (bt s a) then some (a + 1, ns ++ [⟨bt s a, 0, 0⟩])
    else if oneB (bt s a) then
      match ps k s (a + 1) ns with
      | none => none
      | some (a1, n1) => some (a1, n1 ++ [⟨bt s a, n1.length - 1, 0⟩])
    else if bt s a = 40 then
      match ps k s (a + 1) ns with
      | none => none
      | some (a1, n1) =>
        if twoB (bt s a1) then
          match ps k s (a1 + 1) n1 with
          | none => none
          | some (a2, n2) => if bt s a2 = 41 then some (a2 + 1, n2 ++ [⟨bt s a1, n1.length - 1, n2.length - 1⟩]) else none
        else none
    else none

/-- What stands behind an opening bracket, the bracket taken. -/
def ps2 (k : Nat) (s : ByteArray) (a : Nat) (ns : List Nd) : Option (Nat × List Nd) :=
  match ps k s a ns with
  | none => none
  | some (a1, n1) =>
    if twoB (bt s a1) then
      match ps k s (a1 + 1) n1 with
      | none => none
      | some (a2, n2) => if bt s a2 = 41 then some (a2 + 1, n2 ++ [⟨bt s a1, n1.length - 1, n2.length - 1⟩]) else none
    else none

/-- What stands behind a sign for one formula, the sign taken. -/
def ps1 (op : Nat) (k : Nat) (s : ByteArray) (a : Nat) (ns : List Nd) : Option (Nat × List Nd) :=
  match ps k s a ns with
  | none => none
  | some (a1, n1) => some (a1, n1 ++ [⟨op, n1.length - 1, 0⟩])

theorem ps_leaf {k : Nat} {s : ByteArray} {a : Nat} {ns : List Nd} (h : leafB (bt s a) = true) : ps (k + 1) s a ns = some (a + 1, ns ++ [⟨bt s a, 0, 0⟩]) := by
  simp [ps, h]
theorem leaf_not_one {b : Nat} (h : oneB b = true) : leafB b = false := by
  simp only [oneB, Bool.or_eq_true, beq_iff_eq] at h
  rcases h with ((h | h) | h) | h <;> subst h <;> decide
theorem ps_one {k : Nat} {s : ByteArray} {a : Nat} {ns : List Nd} (h : oneB (bt s a) = true) : ps (k + 1) s a ns = ps1 (bt s a) k s (a + 1) ns := by
  simp [ps, h, leaf_not_one h, ps1]
theorem ps_two {k : Nat} {s : ByteArray} {a : Nat} {ns : List Nd} (h : bt s a = 40) : ps (k + 1) s a ns = ps2 k s (a + 1) ns := by
  simp [ps, h, ps2, leafB, oneB]
theorem ps_no {k : Nat} {s : ByteArray} {a : Nat} {ns : List Nd} (h1 : leafB (bt s a) = false) (h2 : oneB (bt s a) = false) (h3 : ¬ bt s a = 40) : ps (k + 1) s a ns = none := by
  simp [ps, h1, h2, h3]

theorem leaf_ne {b : Nat} (h : leafB b = true) : b ≠ 0 := by intro e; subst e; revert h; decide
theorem two_ne {b : Nat} (h : twoB b = true) : b ≠ 0 := by intro e; subst e; revert h; decide

/-- Where it ends, and how much longer the list is: no more than a node a byte. -/
theorem ps_grows : ∀ (k : Nat) (s : ByteArray) (a : Nat) (ns : List Nd) (a' : Nat) (ns' : List Nd), ps k s a ns = some (a', ns') →
    a < a' ∧ a' ≤ s.size ∧ ns'.length + a ≤ ns.length + a' ∧ ns.length < ns'.length
  | 0, _, _, _, _, _, h => by simp [ps] at h
  | k + 1, s, a, ns, a', ns', h => by
    by_cases b1 : leafB (bt s a) = true
    · rw [ps_leaf b1] at h
      simp only [Option.some.injEq, Prod.mk.injEq] at h
      obtain ⟨rfl, rfl⟩ := h
      have := bt_lt (leaf_ne b1)
      simp; omega
    · rw [Bool.not_eq_true] at b1
      by_cases b2 : oneB (bt s a) = true
      · rw [ps_one b2] at h
        unfold ps1 at h
        cases e : ps k s (a + 1) ns with
        | none => rw [e] at h; simp at h
        | some x =>
          obtain ⟨a1, n1⟩ := x
          rw [e] at h
          simp only [Option.some.injEq, Prod.mk.injEq] at h
          obtain ⟨rfl, rfl⟩ := h
          have := ps_grows k s _ _ _ _ e
          simp; omega
      · rw [Bool.not_eq_true] at b2
        by_cases b3 : bt s a = 40
        · rw [ps_two b3] at h
          unfold ps2 at h
          cases e : ps k s (a + 1) ns with
          | none => rw [e] at h; simp at h
          | some x =>
            obtain ⟨a1, n1⟩ := x
            rw [e] at h
            simp only at h
            by_cases b4 : twoB (bt s a1) = true
            · rw [if_pos b4] at h
              cases e2 : ps k s (a1 + 1) n1 with
              | none => rw [e2] at h; simp at h
              | some x =>
                obtain ⟨a2, n2⟩ := x
                rw [e2] at h
                simp only at h
                by_cases b5 : bt s a2 = 41
                · rw [if_pos b5] at h
                  simp only [Option.some.injEq, Prod.mk.injEq] at h
                  obtain ⟨rfl, rfl⟩ := h
                  have g1 := ps_grows k s _ _ _ _ e
                  have g2 := ps_grows k s _ _ _ _ e2
                  have := bt_lt (s := s) (i := a2) (by omega)
                  simp; omega
                · rw [if_neg b5] at h; simp at h
            · rw [if_neg b4] at h; simp at h
        · rw [ps_no b1 b2 b3] at h; simp at h

/-- The nodes below a node stand ahead of it. -/
def Wf (ns : List Nd) : Prop := ∀ (i : Nat) (n : Nd), ns[i]? = some n → (leafB n.op = false → n.l < i) ∧ (twoB n.op = true → n.r < i)

theorem Wf.snoc {ns : List Nd} (h : Wf ns) (n : Nd) (h1 : leafB n.op = false → n.l < ns.length) (h2 : twoB n.op = true → n.r < ns.length) : Wf (ns ++ [n]) := by
  intro i m hm
  by_cases hi : i < ns.length
  · rw [List.getElem?_append_left hi] at hm
    exact h i m hm
  · rw [List.getElem?_append_right (by omega)] at hm
    have : i = ns.length := by
      have := (List.getElem?_eq_some_iff.1 hm).1
      simp at this; omega
    subst this
    simp at hm
    subst hm
    exact ⟨h1, h2⟩

theorem one_not_two {b : Nat} (h : oneB b = true) : twoB b = false := by
  simp only [oneB, Bool.or_eq_true, beq_iff_eq] at h
  rcases h with ((h | h) | h) | h <;> subst h <;> decide
theorem leaf_not_two {b : Nat} (h : leafB b = true) : twoB b = false := by
  simp only [leafB, Bool.or_eq_true, beq_iff_eq] at h
  rcases h with (((h | h) | h) | h) | h <;> subst h <;> decide
theorem two_not_leaf {b : Nat} (h : twoB b = true) : leafB b = false := by
  simp only [twoB, Bool.or_eq_true, beq_iff_eq] at h
  rcases h with ((h | h) | h) | h <;> subst h <;> decide
theorem leaf_is {b : Nat} (h : leafB b = true) : b = 48 ∨ b = 49 ∨ b = 112 ∨ b = 113 ∨ b = 114 := by
  simpa [leafB, or_assoc] using h
theorem one_is {b : Nat} (h : oneB b = true) : b = 33 ∨ b = 88 ∨ b = 70 ∨ b = 71 := by
  simpa [oneB, or_assoc] using h
theorem two_is {b : Nat} (h : twoB b = true) : b = 38 ∨ b = 124 ∨ b = 85 ∨ b = 82 := by
  simpa [twoB, or_assoc] using h

/-- The cells of a node, of a list of nodes. -/
def flat (ns : List Nd) : List Value := ns.flatMap fun n => [.int .u8 n.op, .int .i64 n.l, .int .i64 n.r]
theorem flat_snoc (ns : List Nd) (n : Nd) : flat (ns ++ [n]) = flat ns ++ [.int .u8 n.op, .int .i64 n.l, .int .i64 n.r] := by simp [flat]
/-- A formula's text: the error (0: none) and the nodes. -/
def parseOf (s : ByteArray) : Nat × List Nd :=
  if 24 < s.size then (1, []) else
  match ps 25 s 0 [] with
  | none => (2, [])
  | some (a, ns) => if a = s.size then (if 8 < ns.length then (3, []) else (0, ns)) else (2, [])

end Go.Proofs.Ytjagijohfkffiab

/- The walks of the program's reader: take, add, joins. -/
namespace Go.Proofs.Ytjagijohfkffiab
open Go.RowKit
set_option linter.unusedVariables false

theorem Try.infoNode : (Try.prog.info? 124).map (fun i => (i.zero, i.size, i.bytes)) = some (some (.agg #[.int .u8 0, .int .i64 0, .int .i64 0]), 3, 24) := by kernel_rfl

theorem hid {p : Prop} (h : p) : Hid p := h

theorem cell_three_new (w : World) (a b c : Value) (t : TypeId) : ∀ j u, [a, b, c][j]? = some u → (w.alloc (.cells #[a, b, c] t)).cell? ((⟨w.heap.size, 0, none⟩ : Addr).add j) = some u := by
  intro j u hj
  match j, hj with
  | 0, hj => simp at hj; subst hj; simp [Addr.add]
  | 1, hj => simp at hj; subst hj; simp [Addr.add]
  | 2, hj => simp at hj; subst hj; simp [Addr.add]
  | j + 3, hj => simp at hj

theorem own_mono {w : World} {B B' : Nat} {e : TypeId} {size : Nat} {v : Value} {n : Nat} {xs : List Value} (h : w.ownsRow B e size v n xs) (hb : B' ≤ B) : w.ownsRow B' e size v n xs := by
  obtain ⟨h1, h2⟩ := h
  rcases h2 with h2 | ⟨g, cap, cur, a, b, r⟩
  · exact ⟨h1, Or.inl h2⟩
  · exact ⟨h1, Or.inr ⟨g, cap, cur, a, Nat.le_trans hb b, r⟩⟩

/-- The reader at block R: text s, place a, nodes ns; the nodes' row lies behind R. -/
structure Rd (w : World) (R : Nat) (s : ByteArray) (a : Nat) (ns : List Nd) : Prop where
  c0 : w.cell? ⟨R, 0, none⟩ = some (.string s)
  c1 : w.cell? ⟨R, 1, none⟩ = some (.int .i64 a)
  c2 : ∃ ao cap, w.cell? ⟨R, 2, none⟩ = some (.slice ao ns.length cap) ∧ w.ownsRow (R + 1) 124 3 (.slice ao ns.length cap) ns.length (flat ns)
  f1 : w.frozen? ⟨R, 1, none⟩ = false
  f2 : w.frozen? ⟨R, 2, none⟩ = false

theorem Rd.lt {w : World} {R : Nat} {s : ByteArray} {a : Nat} {ns : List Nd} (h : Rd w R s a ns) : R < w.heap.size := World.block_lt_of_cell? w ⟨R, 0, none⟩ h.c0

theorem Rd.drewN {w : World} {R : Nat} {s : ByteArray} {a : Nat} {ns : List Nd} (h : Rd w R s a ns) (m : Nat) : Rd (w.drewN m) R s a ns :=
  ⟨h.c0, h.c1, h.c2, h.f1, h.f2⟩

/-- The place is moved on. -/
theorem Rd.moved {w : World} {R : Nat} {s : ByteArray} {a : Nat} {ns : List Nd} (h : Rd w R s a ns) (b : Nat) : Rd (w.setCell ⟨R, 1, none⟩ (.int .i64 b)) R s b ns := by
  obtain ⟨ao, cap, hc, ho⟩ := h.c2
  refine ⟨?_, ?_, ⟨ao, cap, ?_, ?_⟩, ?_, ?_⟩
  · rw [World.cell?_setCell_other _ _ _ _ (by simp)]; exact h.c0
  · exact World.cell?_setCell_same _ _ _ h.c1
  · rw [World.cell?_setCell_other _ _ _ _ (by simp)]; exact hc
  · exact ownsRow_setCell_below ho (by simp) _
  · rw [World.frozen?_setCell]; exact h.f1
  · rw [World.frozen?_setCell]; exact h.f2

/-- The nodes' row has grown, the value is stored. -/
theorem Rd.pushed {w w' : World} {R : Nat} {s : ByteArray} {a : Nat} {ns : List Nd} (h : Rd w R s a ns) (hb : Below (R + 1) w w') (ms : List Nd) (ao : Option Addr) (cap : Nat)
    (ho : w'.ownsRow (R + 1) 124 3 (.slice ao ms.length cap) ms.length (flat ms)) : Rd (w'.setCell ⟨R, 2, none⟩ (.slice ao ms.length cap)) R s a ms := by
  have hR : R < R + 1 := Nat.lt_succ_self _
  obtain ⟨_, _, hc, _⟩ := h.c2
  refine ⟨?_, ?_, ⟨ao, cap, ?_, ?_⟩, ?_, ?_⟩
  · rw [World.cell?_setCell_other _ _ _ _ (by simp), hb.cell hR]; exact h.c0
  · rw [World.cell?_setCell_other _ _ _ _ (by simp), hb.cell hR]; exact h.c1
  · exact World.cell?_setCell_same _ _ _ ((hb.cell (p := ⟨R, 2, none⟩) hR).trans hc)
  · exact ownsRow_setCell_below ho (by simp) _
  · rw [World.frozen?_setCell, hb.frozen hR]; exact h.f1
  · rw [World.frozen?_setCell, hb.frozen hR]; exact h.f2

set_option maxHeartbeats 400000 in
theorem take_in (R a : Nat) (s : ByteArray) (ns : List Nd) (w : World) (hs : s.size ≤ 24) (hlt : a < s.size) (hr : Rd w R s a ns) :
    Calls Try.prog 100 #[.pointer (some ⟨R, 0, none⟩)] w fun e w' => e = .returned (.int .u8 (bt s a)) ∧ Rd w' R s (a + 1) ns ∧ Below R w w' := by
  have c0 := hr.c0
  have c1 := hr.c1
  have f1 := hr.f1
  have hd : decide ((a : Int) < 0) = false := by simp
  have hd2 : decide ((s.size : Int) ≤ (a : Int)) = false := by simp; omega
  go_enter Try.func100, Try.ntmps100
  go_wp2
  go_quiet (fail)
  go_wp2
  go_quiet (fail)
  go_wp2
  go_ret
  refine ⟨by rw [bt_in hlt]; rfl, ?_, ?_⟩
  · exact (hr.drewN _).moved (a + 1)
  · exact (below_drewN (Below.refl R w) _).setCell (p := ⟨R, 1, none⟩) (Nat.le_refl _) _

set_option maxHeartbeats 400000 in
theorem take_out (R a : Nat) (s : ByteArray) (ns : List Nd) (w : World) (hs : s.size ≤ 24) (hlt : ¬ a < s.size) (ha : a ≤ s.size) (hr : Rd w R s a ns) :
    Calls Try.prog 100 #[.pointer (some ⟨R, 0, none⟩)] w fun e w' => e = .returned (.int .u8 (bt s a)) ∧ Rd w' R s a ns ∧ Below R w w' := by
  have c0 := hr.c0
  have c1 := hr.c1
  have f1 := hr.f1
  have hd : decide ((a : Int) < 0) = false := by simp
  have hd2 : decide ((s.size : Int) ≤ (a : Int)) = true := by simp; omega
  go_enter Try.func100, Try.ntmps100
  go_wp2
  go_quiet (fail)
  go_wp2
  go_ret
  refine ⟨by rw [bt_out hlt]; rfl, hr.drewN _, below_drewN (Below.refl _ _) _⟩

/-- The place behind a byte that was asked for. -/
def nxt (s : ByteArray) (a : Nat) : Nat := if a < s.size then a + 1 else a

theorem take_any (R a : Nat) (s : ByteArray) (ns : List Nd) (w : World) (hs : s.size ≤ 24) (ha : a ≤ s.size) (hr : Rd w R s a ns) :
    Calls Try.prog 100 #[.pointer (some ⟨R, 0, none⟩)] w fun e w' => e = .returned (.int .u8 (bt s a)) ∧ Rd w' R s (nxt s a) ns ∧ Below R w w' := by
  unfold nxt
  by_cases h : a < s.size
  · rw [if_pos h]; exact take_in R a s ns w hs h hr
  · rw [if_neg h]; exact take_out R a s ns w hs h ha hr

set_option maxHeartbeats 400000 in
set_option maxRecDepth 100000 in
theorem add_any (R a : Nat) (op l r : Int) (s : ByteArray) (ns : List Nd) (w : World) (hn : ns.length ≤ 1000) (ho : 0 ≤ op) (hl : 0 ≤ l) (hr0 : 0 ≤ r) (hr : Rd w R s a ns) :
    Calls Try.prog 101 #[.pointer (some ⟨R, 0, none⟩), .int .u8 op, .int .i64 l, .int .i64 r] w fun e w' => e = .returned (.tuple #[]) ∧ Rd w' R s a (ns ++ [⟨op.toNat, l.toNat, r.toNat⟩]) ∧ Below R w w' := by
  obtain ⟨on, rfl⟩ := Int.eq_ofNat_of_zero_le ho
  obtain ⟨ln, rfl⟩ := Int.eq_ofNat_of_zero_le hl
  obtain ⟨rn, rfl⟩ := Int.eq_ofNat_of_zero_le hr0
  simp only [Int.toNat_natCast]
  obtain ⟨ao, cap, c2, own⟩ := hr.c2
  have f2 := hr.f2
  have hR := hr.lt
  obtain ⟨i0, hi, hz0, hz1, hz2⟩ := info_parts Try.infoNode
  go_enter Try.func101, Try.ntmps101
  go_wp2_with (at_builtin; refine wpList_append_own _ rfl (.tmp 12) (.tmp 17) 60 rfl (R + 1) 124 i0 (.agg #[.int .u8 0, .int .i64 0, .int .i64 0]) 3 24 Try.underlying60 hi hz0 hz1 hz2 rfl (by decide) _ _ _ rfl (own.alloc _) ⟨w.heap.size, 0, none⟩ 1 1 [.int .u8 on, .int .i64 ln, .int .i64 rn] rfl rfl ?c1 ?c2 ?c3 ?c4 ?c5 ?_)
  case c1 => exact cell_three_new _ _ _ _ _
  case c2 => intro u hu; simp at hu; rcases hu with rfl | rfl | rfl <;> rfl
  case c3 => unfold maxLen; omega
  case c4 => omega
  case c5 => simp; omega
  intro v' w1 hown hgrow _
  have hbel : Below (R + 1) w w1 := ((Below.refl _ _).alloc (by omega) _).grown hgrow (by simp; omega) (fun k h => (own.lt k h).1)
  have e1 : ns.length + 1 = (ns ++ [(⟨on, ln, rn⟩ : Nd)]).length := by simp
  have e2 : flat ns ++ [.int .u8 on, .int .i64 ln, .int .i64 rn] = flat (ns ++ [(⟨on, ln, rn⟩ : Nd)]) := (flat_snoc ns ⟨on, ln, rn⟩).symm
  rw [e2, e1] at hown
  obtain ⟨ao', cap', hv⟩ : ∃ ao' cap', v' = .slice ao' (ns ++ [(⟨on, ln, rn⟩ : Nd)]).length cap' := by
    rcases hown.2 with ⟨h, h0⟩ | ⟨g, cap', _, h, _⟩
    · simp at h0
    · exact ⟨_, cap', h⟩
  subst hv
  have P1 := hid (hr.pushed hbel _ ao' cap' hown)
  have k2 := (hbel.cell (p := ⟨R, 2, none⟩) (Nat.lt_succ_self _)).trans c2
  have g2 := (hbel.frozen (p := ⟨R, 2, none⟩) (Nat.lt_succ_self _)).trans f2
  have B1 := hid ((hbel.mono (Nat.le_succ R)).setCell (p := ⟨R, 2, none⟩) (Nat.le_refl _) (.slice ao' (ns ++ [(⟨on, ln, rn⟩ : Nd)]).length cap'))
  clear hown hgrow e1 e2 hbel own c2 f2
  go_wp2
  go_end0
  have q1 := P1.out
  have q2 := B1.out
  rw [List.length_append, List.length_singleton] at q1 q2
  exact ⟨rfl, q1, q2⟩


set_option maxHeartbeats 400000 in
theorem joins_any (b : Nat) (w : World) (hb : b < 256) : Calls Try.prog 125 #[.int .u8 b] w fun e w' => e = .returned (.bool (twoB b)) ∧ w' = w := by
  by_cases h1 : b = 38
  · subst h1
    go_enter Try.func125, Try.ntmps125
    go_wp2
    go_ret
    exact ⟨rfl, rfl⟩
  by_cases h2 : b = 124
  · subst h2
    go_enter Try.func125, Try.ntmps125
    go_wp2
    go_ret
    exact ⟨rfl, rfl⟩
  by_cases h3 : b = 85
  · subst h3
    go_enter Try.func125, Try.ntmps125
    go_wp2
    go_ret
    exact ⟨rfl, rfl⟩
  by_cases h4 : b = 82
  · subst h4
    go_enter Try.func125, Try.ntmps125
    go_wp2
    go_ret
    exact ⟨rfl, rfl⟩
  have k1 : ((b : Int) == 38) = false := beq_eq_false_iff_ne.2 (by omega)
  have k2 : ((b : Int) == 124) = false := beq_eq_false_iff_ne.2 (by omega)
  have k3 : ((b : Int) == 85) = false := beq_eq_false_iff_ne.2 (by omega)
  have k4 : ((b : Int) == 82) = false := beq_eq_false_iff_ne.2 (by omega)
  have k5 : twoB b = false := by
    cases e : twoB b with
    | false => rfl
    | true => have := two_is e; omega
  go_enter Try.func125, Try.ntmps125
  go_wp2
  go_ret
  rw [k5]
  exact ⟨rfl, rfl⟩

end Go.Proofs.Ytjagijohfkffiab

/- Laws on arrays by value: a cell of an array; an array out of and into memory. -/
namespace Go.Proofs.Ytjagijohfkffiab
open Go.RowKit
set_option linter.unusedVariables false

theorem run_sizeOf {P : Program} {t : TypeId} {n : Nat} (h : (P.info? t).map (·.size) = some n) (w : World) : (sizeOf t).run P w = .ok n w := by
  cases hq : P.info? t with
  | none => simp [hq] at h
  | some i => simp [hq] at h; simp [sizeOf, typeInfo, hq, h]

theorem run_isAgg_int {P : Program} {t : TypeId} {k : IntKind} (h : P.underlying t = some (.int k)) (w : World) : (isAgg t).run P w = .ok false w := by
  simp [isAgg, run_underlying h]
theorem run_isAgg_bool {P : Program} {t : TypeId} (h : P.underlying t = some .bool) (w : World) : (isAgg t).run P w = .ok false w := by
  simp [isAgg, run_underlying h]
/-- x[j], x an array of one-cell elements that was taken by value. -/
theorem run_index_one {P : Program} {t e : TypeId} {len : Nat} {X : Array Value} {j : Nat} {v : Value} (w : World) (ht : P.underlying t = some (.array len e)) (he : ∀ w, (isAgg e).run P w = .ok false w) (hs : (P.info? e).map (·.size) = some 1)
    (hj : j < len) (hX : X[j]? = some v) : (Instr.index t (.agg X) (.int .i64 (j : Nat))).run P w = .ok v w := by
  have h0 : (0 : Int) ≤ (j : Int) ∧ (j : Int) < (len : Int) := by omega
  simp only [Instr.index, asIntOf, Sem.run_bind, Sem.run_pure, Result.andThen, run_underlying ht, if_pos h0, run_sizeOf hs, part, he]
  simp [hX]

end Go.Proofs.Ytjagijohfkffiab

/- Plain mathematics: endless paths in finite graphs that meet each of some marks again and again. -/
namespace Go.Proofs.Ytjagijohfkffiab

def reachN (E : Nat → Nat → Prop) : Nat → Nat → Nat → Prop
  | 0, a, b => a = b
  | L + 1, a, b => ∃ c, E a c ∧ reachN E L c b

/-- With one step at least. -/
def reach (E : Nat → Nat → Prop) (a b : Nat) : Prop := ∃ L, reachN E (L + 1) a b

theorem reachN_add {E : Nat → Nat → Prop} : ∀ (L M a b c : Nat), reachN E L a b → reachN E M b c → reachN E (L + M) a c
  | 0, M, a, b, c, h, k => by cases h; rw [Nat.zero_add]; exact k
  | L + 1, M, a, b, c, ⟨d, h1, h2⟩, k => by
    rw [show L + 1 + M = L + M + 1 by omega]
    exact ⟨d, h1, reachN_add L M d b c h2 k⟩

theorem reach_trans {E : Nat → Nat → Prop} {a b c : Nat} (h : reach E a b) (k : reach E b c) : reach E a c := by
  obtain ⟨L, h⟩ := h
  obtain ⟨M, k⟩ := k
  exact ⟨L + M + 1, by rw [show L + M + 1 + 1 = (L + 1) + (M + 1) by omega]; exact reachN_add _ _ _ _ _ h k⟩
theorem reach_edge {E : Nat → Nat → Prop} {a b : Nat} (h : E a b) : reach E a b := ⟨0, b, h, rfl⟩
theorem reach_cons {E : Nat → Nat → Prop} {a b c : Nat} (h : E a b) (k : reach E b c) : reach E a c := reach_trans (reach_edge h) k

/-- A walk of L steps. -/
def Walk (E : Nat → Nat → Prop) (p : Nat → Nat) (L a b : Nat) : Prop := p 0 = a ∧ p L = b ∧ ∀ i, i < L → E (p i) (p (i + 1))

theorem walk_of {E : Nat → Nat → Prop} : ∀ (L a b : Nat), reachN E L a b → ∃ p, Walk E p L a b
  | 0, a, b, h => ⟨fun _ => a, rfl, h, fun i hi => by omega⟩
  | L + 1, a, b, ⟨c, h1, h2⟩ => by
    obtain ⟨p, p0, pL, pe⟩ := walk_of L c b h2
    refine ⟨fun i => match i with | 0 => a | i + 1 => p i, rfl, pL, fun i hi => ?_⟩
    cases i with
    | zero => show E a (p 0); rw [p0]; exact h1
    | succ i => exact pe i (by omega)

theorem walk_reach {E : Nat → Nat → Prop} {p : Nat → Nat} (h : ∀ t, E (p t) (p (t + 1))) (s d : Nat) : reach E (p s) (p (s + d + 1)) := by
  induction d with
  | zero => exact reach_edge (h s)
  | succ d ih => exact reach_trans ih (reach_edge (h (s + d + 1)))

/-- Two walks, one behind the other. -/
def joinW (p q : Nat → Nat) (L : Nat) (i : Nat) : Nat := if i < L then p i else q (i - L)
theorem walk_join {E : Nat → Nat → Prop} {p q : Nat → Nat} {L M a b c : Nat} (h : Walk E p L a b) (k : Walk E q M b c) : Walk E (joinW p q L) (L + M) a c := by
  obtain ⟨h0, hL, he⟩ := h
  obtain ⟨k0, kM, ke⟩ := k
  refine ⟨?_, ?_, fun i hi => ?_⟩
  · unfold joinW
    by_cases h : 0 < L
    · rw [if_pos h]; exact h0
    · rw [if_neg h]
      have : L = 0 := by omega
      subst this
      rw [Nat.sub_self, k0, ← hL, h0]
  · unfold joinW
    rw [if_neg (by omega), Nat.add_sub_cancel_left]; exact kM
  · unfold joinW
    by_cases h1 : i + 1 < L
    · rw [if_pos (by omega), if_pos h1]; exact he i (by omega)
    · rw [if_neg h1]
      by_cases h2 : i < L
      · have e : i + 1 = L := by omega
        rw [if_pos h2, e, Nat.sub_self, k0, ← hL, ← e]; exact he i h2
      · rw [if_neg h2, show i + 1 - L = (i - L) + 1 by omega]; exact ke (i - L) (by omega)

/-- A ring through all that is listed. -/
theorem ring_through {E : Nat → Nat → Prop} {c : Nat} (hc : reach E c c) : ∀ l : List Nat, (∀ i ∈ l, reach E c i ∧ reach E i c) → ∃ p L, 0 < L ∧ Walk E p L c c ∧ ∀ i ∈ l, ∃ s, s < L ∧ p s = i
  | [], _ => by
    obtain ⟨L, h⟩ := hc
    obtain ⟨p, hp⟩ := walk_of _ _ _ h
    exact ⟨p, L + 1, by omega, hp, fun i hi => by simp at hi⟩
  | i :: l, hl => by
    obtain ⟨p, L, hL, hp, hm⟩ := ring_through hc l (fun j hj => hl j (List.mem_cons_of_mem _ hj))
    obtain ⟨⟨M, h1⟩, ⟨M', h2⟩⟩ := hl i (List.mem_cons_self ..)
    obtain ⟨q, hq⟩ := walk_of _ _ _ h1
    obtain ⟨r, hr⟩ := walk_of _ _ _ h2
    have hqr := walk_join hq hr
    refine ⟨joinW p (joinW q r (M + 1)) L, L + (M + 1 + (M' + 1)), by omega, walk_join hp hqr, fun j hj => ?_⟩
    rcases List.mem_cons.1 hj with rfl | hj
    · refine ⟨L + (M + 1), by omega, ?_⟩
      unfold joinW
      rw [if_neg (by omega), Nat.add_sub_cancel_left, if_neg (by omega), Nat.sub_self]
      exact hr.1
    · obtain ⟨s, hs, e⟩ := hm j hj
      refine ⟨s, by omega, ?_⟩
      unfold joinW
      rw [if_pos hs]; exact e

/-- An endless path. -/
def Path (E : Nat → Nat → Prop) (q : Nat → Nat) : Prop := ∀ t, E (q t) (q (t + 1))
/-- It meets each of the m marks again and again. -/
def Meets (K : Nat → Nat → Prop) (m : Nat) (q : Nat → Nat) : Prop := ∀ k, k < m → ∀ t, ∃ t', t ≤ t' ∧ K k (q t')

def GoodN (E : Nat → Nat → Prop) (K : Nat → Nat → Prop) (m c : Nat) : Prop := reach E c c ∧ ∀ k, k < m → ∃ i, reach E c i ∧ reach E i c ∧ K k i

theorem marks_list {E : Nat → Nat → Prop} {K : Nat → Nat → Prop} {c : Nat} : ∀ m, (∀ k, k < m → ∃ i, reach E c i ∧ reach E i c ∧ K k i) → ∃ l : List Nat, (∀ i ∈ l, reach E c i ∧ reach E i c) ∧ ∀ k, k < m → ∃ i ∈ l, K k i
  | 0, _ => ⟨[], fun i hi => by simp at hi, fun k hk => by omega⟩
  | m + 1, h => by
    obtain ⟨l, h1, h2⟩ := marks_list m (fun k hk => h k (by omega))
    obtain ⟨i, a, b, d⟩ := h m (by omega)
    refine ⟨i :: l, fun j hj => ?_, fun k hk => ?_⟩
    · rcases List.mem_cons.1 hj with rfl | hj
      · exact ⟨a, b⟩
      · exact h1 j hj
    · by_cases e : k = m
      · subst e; exact ⟨i, List.mem_cons_self .., d⟩
      · obtain ⟨j, hj, hk2⟩ := h2 k (by omega)
        exact ⟨j, List.mem_cons_of_mem _ hj, hk2⟩

/-- Round and round. -/
theorem ring_path {E : Nat → Nat → Prop} {p : Nat → Nat} {L c : Nat} (hL : 0 < L) (h : Walk E p L c c) : Path E (fun t => p (t % L)) := by
  obtain ⟨h0, h1, he⟩ := h
  intro t
  have hm := Nat.mod_lt t hL
  show E (p (t % L)) (p ((t + 1) % L))
  by_cases h2 : t % L + 1 < L
  · have e : (t + 1) % L = t % L + 1 := by
      rw [Nat.add_mod]
      by_cases h3 : L = 1
      · omega
      · rw [Nat.mod_eq_of_lt (show 1 < L by omega), Nat.mod_eq_of_lt h2]
    rw [e]; exact he _ hm
  · have e : (t + 1) % L = 0 := by
      have e2 : t % L + 1 = L := by omega
      have := Nat.div_add_mod t L
      have e3 : t + 1 = L * (t / L + 1) := by rw [Nat.mul_add]; omega
      rw [e3, Nat.mul_mod_right]
    rw [e, h0]
    have := he (t % L) hm
    rw [show t % L + 1 = L by omega, h1] at this
    exact this

theorem good_path {E : Nat → Nat → Prop} {K : Nat → Nat → Prop} {m c : Nat} (h : GoodN E K m c) : ∃ q, q 0 = c ∧ Path E q ∧ Meets K m q ∧ ∃ L, 0 < L ∧ ∀ t, q (t + L) = q t := by
  obtain ⟨hc, hk⟩ := h
  obtain ⟨l, h1, h2⟩ := marks_list m hk
  obtain ⟨p, L, hL, hp, hm⟩ := ring_through hc l h1
  refine ⟨fun t => p (t % L), by simp [hp.1], ring_path hL hp, fun k hk t => ?_, L, hL, fun t => by simp⟩
  obtain ⟨i, hi, hK⟩ := h2 k hk
  obtain ⟨s, hs, e⟩ := hm i hi
  refine ⟨t * L + s, ?_, ?_⟩
  · have : t * 1 ≤ t * L := Nat.mul_le_mul_left t hL
    omega
  · show K k (p ((t * L + s) % L))
    rw [Nat.mul_comm, Nat.mul_add_mod, Nat.mod_eq_of_lt hs, e]
    exact hK

/-- Among few nodes one is met again and again. -/
theorem met_often {q : Nat → Nat} {P : Nat → Prop} {n : Nat} (hn : ∀ t, q t < n) (h : ∀ t, ∃ t', t ≤ t' ∧ P (q t')) : ∃ v, v < n ∧ P v ∧ ∀ t, ∃ t', t ≤ t' ∧ q t' = v := by
  refine Classical.byContradiction fun hc => ?_
  have key : ∀ j, j ≤ n → ∃ T, ∀ t, T ≤ t → ∀ v, v < j → P v → q t ≠ v := by
    intro j
    induction j with
    | zero => intro _; exact ⟨0, fun t _ v hv => by omega⟩
    | succ j ih =>
      intro hj
      obtain ⟨T, hT⟩ := ih (by omega)
      by_cases hP : P j
      · have : ∃ T', ∀ t, T' ≤ t → q t ≠ j := Classical.byContradiction fun hx => hc ⟨j, by omega, hP, fun t => Classical.byContradiction fun hy => hx ⟨t, fun t' ht e => hy ⟨t', ht, e⟩⟩⟩
        obtain ⟨T', hT'⟩ := this
        refine ⟨max T T', fun t ht v hv hPv => ?_⟩
        by_cases e : v = j
        · subst e; exact hT' t (by omega)
        · exact hT t (by omega) v (by omega) hPv
      · refine ⟨T, fun t ht v hv hPv => ?_⟩
        by_cases e : v = j
        · subst e; exact absurd hPv hP
        · exact hT t ht v (by omega) hPv
  obtain ⟨T, hT⟩ := key n (Nat.le_refl _)
  obtain ⟨t', ht, hp⟩ := h T
  exact hT t' ht (q t') (hn t') hp rfl

theorem path_good {E : Nat → Nat → Prop} {K : Nat → Nat → Prop} {m n : Nat} {q : Nat → Nat} (hq : Path E q) (hn : ∀ t, q t < n) (hm : Meets K m q) : ∃ c, c < n ∧ reach E (q 0) c ∧ GoodN E K m c := by
  obtain ⟨c, hc, _, hv⟩ := met_often (P := fun _ => True) hn (fun t => ⟨t, Nat.le_refl _, trivial⟩)
  have to : ∀ s v, (∀ t, ∃ t', t ≤ t' ∧ q t' = v) → reach E (q s) v := by
    intro s v hv
    obtain ⟨t', ht, e⟩ := hv (s + 1)
    obtain ⟨d, rfl⟩ : ∃ d, t' = s + d + 1 := ⟨t' - s - 1, by omega⟩
    rw [← e]
    exact walk_reach hq s d
  have back : ∀ u v, (∀ t, ∃ t', t ≤ t' ∧ q t' = u) → (∀ t, ∃ t', t ≤ t' ∧ q t' = v) → reach E u v := by
    intro u v hu hv
    obtain ⟨s, _, e⟩ := hu 0
    rw [← e]
    exact to s v hv
  refine ⟨c, hc, to 0 c hv, back c c hv hv, fun k hk => ?_⟩
  obtain ⟨i, _, hK, hi⟩ := met_often (P := K k) hn (hm k hk)
  exact ⟨i, back c i hv hi, back i c hi hv, hK⟩

/-- From a node an endless path goes that meets all marks just if it gets to a good one. -/
theorem endless_iff {E : Nat → Nat → Prop} {K : Nat → Nat → Prop} {m n a : Nat} (hE : ∀ a b, E a b → b < n) (ha : a < n) : (∃ q, q 0 = a ∧ Path E q ∧ Meets K m q) ↔ ∃ c, c < n ∧ reach E a c ∧ GoodN E K m c := by
  constructor
  · rintro ⟨q, q0, hq, hm⟩
    have hn : ∀ t, q t < n := fun t => by
      cases t with
      | zero => rw [q0]; exact ha
      | succ t => exact hE _ _ (hq t)
    obtain ⟨c, h1, h2, h3⟩ := path_good hq hn hm
    rw [q0] at h2
    exact ⟨c, h1, h2, h3⟩
  · rintro ⟨c, _, ⟨L, h1⟩, h2⟩
    obtain ⟨p, hp⟩ := walk_of _ _ _ h1
    obtain ⟨q, q0, hq, hm, _⟩ := good_path h2
    refine ⟨joinW p q (L + 1), ?_, ?_, ?_⟩
    · unfold joinW; rw [if_pos (by omega)]; exact hp.1
    · intro t
      unfold joinW
      by_cases h3 : t + 1 < L + 1
      · rw [if_pos (by omega), if_pos h3]; exact hp.2.2 t (by omega)
      · rw [if_neg h3]
        by_cases h4 : t < L + 1
        · have e : t + 1 = L + 1 := by omega
          rw [if_pos h4, e, Nat.sub_self, q0]
          have := hp.2.2 t h4
          rw [e, hp.2.1] at this
          exact this
        · rw [if_neg h4, show t + 1 - (L + 1) = (t - (L + 1)) + 1 by omega]; exact hq _
    · intro k hk t
      obtain ⟨t', ht, h3⟩ := hm k hk t
      refine ⟨L + 1 + t', by omega, ?_⟩
      unfold joinW
      rw [if_neg (by omega), Nat.add_sub_cancel_left]; exact h3

end Go.Proofs.Ytjagijohfkffiab
