import Derived.Test.YtjagijohfkffiaaCM01
import Derived.Test.YtjagijohfkffiaaRows
import Derived.WalkKit
import Derived.WalkSmall
import Derived.BigQuiet
import Derived.WalkSpells
import Derived.WalkLawsBesides

/- The walks of the program's reader: take, add, joins. -/
namespace Go.Proofs.Ytjagijohfkffiaa
open Go.RowKit
set_option linter.unusedVariables false

theorem Try.infoNode : (Try.prog.info? 123).map (fun i => (i.zero, i.size, i.bytes)) = some (some (.agg #[.int .u8 0, .int .i64 0, .int .i64 0]), 3, 24) := by kernel_rfl

theorem hid {p : Prop} (h : p) : Hid p := h

theorem cell_three_new (w : World) (a b c : Value) (t : TypeId) : ∀ j u, [a, b, c][j]? = some u → (w.alloc (.cells #[a, b, c] t)).cell? ((⟨w.heap.size, 0, none⟩ : Addr).add j) = some u := by
  intro j u hj
  match j, hj with
  | 0, hj => simp at hj; subst hj; simp [Addr.add]
  | 1, hj => simp at hj; subst hj; simp [Addr.add]
  | 2, hj => simp at hj; subst hj; simp [Addr.add]
  | j + 3, hj => simp at hj

theorem own_mono {w : World} {B B' : Nat} {e : TypeId} {size : Nat} {v : Value} {n : Nat} {xs : List Value} (h : w.ownsRow B e size v n xs) (hb : B' ≤ B) : w.ownsRow B' e size v n xs := by
  obtain ⟨h1, h2⟩ := h
  rcases h2 with h2 | ⟨g, cap, cur, a, b, r⟩
  · exact ⟨h1, Or.inl h2⟩
  · exact ⟨h1, Or.inr ⟨g, cap, cur, a, Nat.le_trans hb b, r⟩⟩

/-- The reader at block R: text s, place a, nodes ns; the nodes' row lies behind R. -/
structure Rd (w : World) (R : Nat) (s : ByteArray) (a : Nat) (ns : List Nd) : Prop where
  c0 : w.cell? ⟨R, 0, none⟩ = some (.string s)
  c1 : w.cell? ⟨R, 1, none⟩ = some (.int .i64 a)
  c2 : ∃ ao cap, w.cell? ⟨R, 2, none⟩ = some (.slice ao ns.length cap) ∧ w.ownsRow (R + 1) 123 3 (.slice ao ns.length cap) ns.length (flat ns)
  f1 : w.frozen? ⟨R, 1, none⟩ = false
  f2 : w.frozen? ⟨R, 2, none⟩ = false

theorem ownsRow_drewN {w : World} {base : Nat} {e : TypeId} {size : Nat} {v : Value} {n : Nat} {xs : List Value} (h : w.ownsRow base e size v n xs) (m : Nat) : (w.drewN m).ownsRow base e size v n xs := h

theorem Rd.lt {w : World} {R : Nat} {s : ByteArray} {a : Nat} {ns : List Nd} (h : Rd w R s a ns) : R < w.heap.size := World.block_lt_of_cell? w ⟨R, 0, none⟩ h.c0

theorem Rd.drewN {w : World} {R : Nat} {s : ByteArray} {a : Nat} {ns : List Nd} (h : Rd w R s a ns) (m : Nat) : Rd (w.drewN m) R s a ns :=
  ⟨h.c0, h.c1, h.c2, h.f1, h.f2⟩

/-- The place is moved on. -/
theorem Rd.moved {w : World} {R : Nat} {s : ByteArray} {a : Nat} {ns : List Nd} (h : Rd w R s a ns) (b : Nat) : Rd (w.setCell ⟨R, 1, none⟩ (.int .i64 b)) R s b ns := by
  obtain ⟨ao, cap, hc, ho⟩ := h.c2
  refine ⟨?_, ?_, ⟨ao, cap, ?_, ?_⟩, ?_, ?_⟩
  · rw [World.cell?_setCell_other _ _ _ _ (by simp)]; exact h.c0
  · exact World.cell?_setCell_same _ _ _ h.c1
  · rw [World.cell?_setCell_other _ _ _ _ (by simp)]; exact hc
  · exact ownsRow_setCell_below ho (by simp) _
  · rw [World.frozen?_setCell]; exact h.f1
  · rw [World.frozen?_setCell]; exact h.f2

/-- The nodes' row has grown, the value is stored. -/
theorem Rd.pushed {w w' : World} {R : Nat} {s : ByteArray} {a : Nat} {ns : List Nd} (h : Rd w R s a ns) (hb : Below (R + 1) w w') (ms : List Nd) (ao : Option Addr) (cap : Nat)
    (ho : w'.ownsRow (R + 1) 123 3 (.slice ao ms.length cap) ms.length (flat ms)) : Rd (w'.setCell ⟨R, 2, none⟩ (.slice ao ms.length cap)) R s a ms := by
  have hR : R < R + 1 := Nat.lt_succ_self _
  obtain ⟨_, _, hc, _⟩ := h.c2
  refine ⟨?_, ?_, ⟨ao, cap, ?_, ?_⟩, ?_, ?_⟩
  · rw [World.cell?_setCell_other _ _ _ _ (by simp), hb.cell hR]; exact h.c0
  · rw [World.cell?_setCell_other _ _ _ _ (by simp), hb.cell hR]; exact h.c1
  · exact World.cell?_setCell_same _ _ _ ((hb.cell (p := ⟨R, 2, none⟩) hR).trans hc)
  · exact ownsRow_setCell_below ho (by simp) _
  · rw [World.frozen?_setCell, hb.frozen hR]; exact h.f1
  · rw [World.frozen?_setCell, hb.frozen hR]; exact h.f2

set_option maxHeartbeats 400000 in
theorem take_in (R a : Nat) (s : ByteArray) (ns : List Nd) (w : World) (hs : s.size ≤ 24) (hlt : a < s.size) (hr : Rd w R s a ns) :
    Calls Try.prog 101 #[.pointer (some ⟨R, 0, none⟩)] w fun e w' => e = .returned (.int .u8 (bt s a)) ∧ Rd w' R s (a + 1) ns ∧ Below R w w' := by
  have c0 := hr.c0
  have c1 := hr.c1
  have f1 := hr.f1
  have hd : decide ((a : Int) < 0) = false := by simp
  have hd2 : decide ((s.size : Int) ≤ (a : Int)) = false := by simp; omega
  go_enter Try.func101, Try.ntmps101
  go_wp2
  go_quiet (fail)
  go_wp2
  go_quiet (fail)
  go_wp2
  go_ret
  refine ⟨by rw [bt_in hlt]; rfl, ?_, ?_⟩
  · exact (hr.drewN _).moved (a + 1)
  · exact (below_drewN (Below.refl R w) _).setCell (p := ⟨R, 1, none⟩) (Nat.le_refl _) _

set_option maxHeartbeats 400000 in
theorem take_out (R a : Nat) (s : ByteArray) (ns : List Nd) (w : World) (hs : s.size ≤ 24) (hlt : ¬ a < s.size) (ha : a ≤ s.size) (hr : Rd w R s a ns) :
    Calls Try.prog 101 #[.pointer (some ⟨R, 0, none⟩)] w fun e w' => e = .returned (.int .u8 (bt s a)) ∧ Rd w' R s a ns ∧ Below R w w' := by
  have c0 := hr.c0
  have c1 := hr.c1
  have f1 := hr.f1
  have hd : decide ((a : Int) < 0) = false := by simp
  have hd2 : decide ((s.size : Int) ≤ (a : Int)) = true := by simp; omega
  go_enter Try.func101, Try.ntmps101
  go_wp2
  go_quiet (fail)
  go_wp2
  go_ret
  refine ⟨by rw [bt_out hlt]; rfl, hr.drewN _, below_drewN (Below.refl _ _) _⟩

/-- The place behind a byte that was asked for. -/
def nxt (s : ByteArray) (a : Nat) : Nat := if a < s.size then a + 1 else a

theorem take_any (R a : Nat) (s : ByteArray) (ns : List Nd) (w : World) (hs : s.size ≤ 24) (ha : a ≤ s.size) (hr : Rd w R s a ns) :
    Calls Try.prog 101 #[.pointer (some ⟨R, 0, none⟩)] w fun e w' => e = .returned (.int .u8 (bt s a)) ∧ Rd w' R s (nxt s a) ns ∧ Below R w w' := by
  unfold nxt
  by_cases h : a < s.size
  · rw [if_pos h]; exact take_in R a s ns w hs h hr
  · rw [if_neg h]; exact take_out R a s ns w hs h ha hr

set_option maxHeartbeats 400000 in
set_option maxRecDepth 100000 in
theorem add_any (R a : Nat) (op l r : Int) (s : ByteArray) (ns : List Nd) (w : World) (hn : ns.length ≤ 1000) (ho : 0 ≤ op) (hl : 0 ≤ l) (hr0 : 0 ≤ r) (hr : Rd w R s a ns) :
    Calls Try.prog 102 #[.pointer (some ⟨R, 0, none⟩), .int .u8 op, .int .i64 l, .int .i64 r] w fun e w' => e = .returned (.tuple #[]) ∧ Rd w' R s a (ns ++ [⟨op.toNat, l.toNat, r.toNat⟩]) ∧ Below R w w' := by
  obtain ⟨on, rfl⟩ := Int.eq_ofNat_of_zero_le ho
  obtain ⟨ln, rfl⟩ := Int.eq_ofNat_of_zero_le hl
  obtain ⟨rn, rfl⟩ := Int.eq_ofNat_of_zero_le hr0
  simp only [Int.toNat_natCast]
  obtain ⟨ao, cap, c2, own⟩ := hr.c2
  have f2 := hr.f2
  have hR := hr.lt
  obtain ⟨i0, hi, hz0, hz1, hz2⟩ := info_parts Try.infoNode
  go_enter Try.func102, Try.ntmps102
  go_wp2_with (at_builtin; refine wpList_append_own _ rfl (.tmp 12) (.tmp 17) 59 rfl (R + 1) 123 i0 (.agg #[.int .u8 0, .int .i64 0, .int .i64 0]) 3 24 Try.underlying59 hi hz0 hz1 hz2 rfl (by decide) _ _ _ rfl (own.alloc _) ⟨w.heap.size, 0, none⟩ 1 1 [.int .u8 on, .int .i64 ln, .int .i64 rn] rfl rfl ?c1 ?c2 ?c3 ?c4 ?c5 ?_)
  case c1 => exact cell_three_new _ _ _ _ _
  case c2 => intro u hu; simp at hu; rcases hu with rfl | rfl | rfl <;> rfl
  case c3 => unfold maxLen; omega
  case c4 => omega
  case c5 => simp; omega
  intro v' w1 hown hgrow _
  have hbel : Below (R + 1) w w1 := ((Below.refl _ _).alloc (by omega) _).grown hgrow (by simp; omega) (fun k h => (own.lt k h).1)
  have e1 : ns.length + 1 = (ns ++ [(⟨on, ln, rn⟩ : Nd)]).length := by simp
  have e2 : flat ns ++ [.int .u8 on, .int .i64 ln, .int .i64 rn] = flat (ns ++ [(⟨on, ln, rn⟩ : Nd)]) := (flat_snoc ns ⟨on, ln, rn⟩).symm
  rw [e2, e1] at hown
  obtain ⟨ao', cap', hv⟩ : ∃ ao' cap', v' = .slice ao' (ns ++ [(⟨on, ln, rn⟩ : Nd)]).length cap' := by
    rcases hown.2 with ⟨h, h0⟩ | ⟨g, cap', _, h, _⟩
    · simp at h0
    · exact ⟨_, cap', h⟩
  subst hv
  have P1 := hid (hr.pushed hbel _ ao' cap' hown)
  have k2 := (hbel.cell (p := ⟨R, 2, none⟩) (Nat.lt_succ_self _)).trans c2
  have g2 := (hbel.frozen (p := ⟨R, 2, none⟩) (Nat.lt_succ_self _)).trans f2
  have B1 := hid ((hbel.mono (Nat.le_succ R)).setCell (p := ⟨R, 2, none⟩) (Nat.le_refl _) (.slice ao' (ns ++ [(⟨on, ln, rn⟩ : Nd)]).length cap'))
  clear hown hgrow e1 e2 hbel own c2 f2
  go_wp2
  go_end0
  have q1 := P1.out
  have q2 := B1.out
  rw [List.length_append, List.length_singleton] at q1 q2
  exact ⟨rfl, q1, q2⟩


set_option maxHeartbeats 400000 in
theorem joins_any (b : Nat) (w : World) (hb : b < 256) : Calls Try.prog 123 #[.int .u8 b] w fun e w' => e = .returned (.bool (twoB b)) ∧ w' = w := by
  by_cases h1 : b = 38
  · subst h1
    go_enter Try.func123, Try.ntmps123
    go_wp2
    go_ret
    exact ⟨rfl, rfl⟩
  by_cases h2 : b = 124
  · subst h2
    go_enter Try.func123, Try.ntmps123
    go_wp2
    go_ret
    exact ⟨rfl, rfl⟩
  by_cases h3 : b = 85
  · subst h3
    go_enter Try.func123, Try.ntmps123
    go_wp2
    go_ret
    exact ⟨rfl, rfl⟩
  by_cases h4 : b = 82
  · subst h4
    go_enter Try.func123, Try.ntmps123
    go_wp2
    go_ret
    exact ⟨rfl, rfl⟩
  have k1 : ((b : Int) == 38) = false := beq_eq_false_iff_ne.2 (by omega)
  have k2 : ((b : Int) == 124) = false := beq_eq_false_iff_ne.2 (by omega)
  have k3 : ((b : Int) == 85) = false := beq_eq_false_iff_ne.2 (by omega)
  have k4 : ((b : Int) == 82) = false := beq_eq_false_iff_ne.2 (by omega)
  have k5 : twoB b = false := by
    cases e : twoB b with
    | false => rfl
    | true => have := two_is e; omega
  go_enter Try.func123, Try.ntmps123
  go_wp2
  go_ret
  rw [k5]
  exact ⟨rfl, rfl⟩

end Go.Proofs.Ytjagijohfkffiaa

/- Sets of nodes as ints: Has, With. -/
namespace Go.Proofs.Ytjagijohfkffiaa
open Go.RowKit
set_option linter.unusedVariables false

/-- The set with node k in it, or without it. -/
def wth (S k : Nat) (b : Bool) : Nat := if b then S ||| 2 ^ k else S - (if S.testBit k then 2 ^ k else 0)

theorem has_fin : ∀ S : Fin 256, ∀ k : Fin 8, (bits BinOp.and IntKind.i64 ((S.val : Int) / 2 ^ k.val) 1 == 1) = S.val.testBit k.val := by decide +kernel
theorem wth_t_fin : ∀ S : Fin 256, ∀ k : Fin 8, bits BinOp.or IntKind.i64 (S.val : Int) (2 ^ k.val) = ((wth S.val k.val true : Nat) : Int) := by decide +kernel
theorem wth_f_fin : ∀ S : Fin 256, ∀ k : Fin 8, bits BinOp.andNot IntKind.i64 (S.val : Int) (2 ^ k.val) = ((wth S.val k.val false : Nat) : Int) := by decide +kernel
theorem wth_lt_fin : ∀ S : Fin 256, ∀ k : Fin 8, ∀ b : Bool, wth S.val k.val b < 256 := by decide +kernel
theorem wth_bit_fin : ∀ S : Fin 256, ∀ k : Fin 8, ∀ j : Fin 8, ∀ b : Bool, (wth S.val k.val b).testBit j.val = if j.val = k.val then b else S.val.testBit j.val := by decide +kernel

theorem wth_lt {S k : Nat} {b : Bool} (hS : S < 256) (hk : k < 8) : wth S k b < 256 := wth_lt_fin ⟨S, hS⟩ ⟨k, hk⟩ b
theorem wth_bit {S k j : Nat} {b : Bool} (hS : S < 256) (hk : k < 8) (hj : j < 8) : (wth S k b).testBit j = if j = k then b else S.testBit j := wth_bit_fin ⟨S, hS⟩ ⟨k, hk⟩ ⟨j, hj⟩ b
theorem pow_wrap {k : Nat} (hk : k < 8) : wrap64 (2 ^ k) = 2 ^ k := by
  have : (2 : Int) ^ k ≤ 128 ∧ 0 ≤ (2 : Int) ^ k := by
    have h : ∀ k : Fin 8, (2 : Int) ^ k.val ≤ 128 ∧ 0 ≤ (2 : Int) ^ k.val := by decide
    exact h ⟨k, hk⟩
  exact IntWalk.wrap64_in _ ⟨by omega, by omega⟩

theorem ret_bool {a b : Bool} (h : a = b) : Ending.returned (.bool a) = .returned (.bool b) := by rw [h]
theorem ret_int {k : IntKind} {a b : Int} (h : a = b) : Ending.returned (.int k a) = .returned (.int k b) := by rw [h]

set_option maxHeartbeats 400000 in
theorem has_any (S k : Nat) (w : World) (hS : S < 256) (hk : k < 8) : Calls Try.prog 79 #[.int .i64 S, .int .i64 k] w fun e w' => e = .returned (.bool (S.testBit k)) ∧ w' = w := by
  have H := hid (has_fin ⟨S, hS⟩ ⟨k, hk⟩)
  go_enter Try.func79, Try.ntmps79
  go_wp2
  go_ret
  exact ⟨ret_bool H.out, rfl⟩

set_option maxHeartbeats 400000 in
theorem with_any (S k : Nat) (b : Bool) (w : World) (hS : S < 256) (hk : k < 8) : Calls Try.prog 106 #[.int .i64 S, .int .i64 k, .bool b] w fun e w' => e = .returned (.int .i64 (wth S k b : Nat)) ∧ w' = w := by
  have HT : Hid (bits BinOp.or IntKind.i64 (S : Int) (wrap64 (2 ^ k)) = ((wth S k true : Nat) : Int)) := hid (by rw [pow_wrap hk]; exact wth_t_fin ⟨S, hS⟩ ⟨k, hk⟩)
  have HF : Hid (bits BinOp.andNot IntKind.i64 (S : Int) (wrap64 (2 ^ k)) = ((wth S k false : Nat) : Int)) := hid (by rw [pow_wrap hk]; exact wth_f_fin ⟨S, hS⟩ ⟨k, hk⟩)
  cases b with
  | true =>
    go_enter Try.func106, Try.ntmps106
    go_wp2
    go_ret
    exact ⟨ret_int HT.out, rfl⟩
  | false =>
    go_enter Try.func106, Try.ntmps106
    go_wp2
    go_ret
    exact ⟨ret_int HF.out, rfl⟩

end Go.Proofs.Ytjagijohfkffiaa

/- The walk of Law, Lasts. -/
namespace Go.Proofs.Ytjagijohfkffiaa
open Go.RowKit
set_option linter.unusedVariables false

/-- What holds at a place, by its letter, what holds there below, and what holds next. -/
def lawB (op letter : Nat) (l r later nl : Bool) : Bool :=
  if op = 49 then true else if op = 112 then letter.testBit 0 else if op = 113 then letter.testBit 1 else if op = 114 then letter.testBit 2 else
  if op = 33 then !l else if op = 88 then nl else if op = 70 then l || later else if op = 71 then l && later else if op = 38 then l && r else if op = 124 then l || r else
  if op = 85 then r || (l && later) else if op = 82 then r && (l || later) else false

theorem let_fin : ∀ x : Fin 8, (bits BinOp.and IntKind.i64 (x.val : Int) 1 != 0) = x.val.testBit 0 ∧ (bits BinOp.and IntKind.i64 (x.val : Int) 2 != 0) = x.val.testBit 1 ∧ (bits BinOp.and IntKind.i64 (x.val : Int) 4 != 0) = x.val.testBit 2 := by decide +kernel

/-- The node as a value. -/
def ndV (n : Nd) : Value := .agg #[.int .u8 n.op, .int .i64 n.l, .int .i64 n.r]

set_option maxHeartbeats 400000 in
theorem law_49 (l r self letter S N : Nat) (w : World) (hl : l < 8) (hr : r < 8) (hs : self < 8) (hx : letter < 8) (hS : S < 256) (hN : N < 256) :
    Calls Try.prog 110 #[.agg #[.int .u8 (49 : Nat), .int .i64 l, .int .i64 r], .int .i64 self, .int .i64 letter, .int .i64 S, .int .i64 N] w fun e w' => e = .returned (.bool (lawB 49 letter (S.testBit l) (S.testBit r) (N.testBit self) (N.testBit l))) ∧ Below w.heap.size w w' := by
  have L := hid (let_fin ⟨letter, hx⟩)
  go_enter Try.func110, Try.ntmps110
  go_wp2_with fail
  refine (has_any S l _ hS hl).mono ?_
  rintro e w' ⟨rfl, rfl⟩
  go_wp2_with fail
  refine (has_any S r _ hS hr).mono ?_
  rintro e w' ⟨rfl, rfl⟩
  go_wp2_with fail
  refine (has_any N self _ hN hs).mono ?_
  rintro e w' ⟨rfl, rfl⟩
  go_wp2_with fail
  go_ret
  exact ⟨rfl, (Below.refl _ _).alloc (Nat.le_refl _) _⟩

set_option maxHeartbeats 400000 in
theorem law_112 (l r self letter S N : Nat) (w : World) (hl : l < 8) (hr : r < 8) (hs : self < 8) (hx : letter < 8) (hS : S < 256) (hN : N < 256) :
    Calls Try.prog 110 #[.agg #[.int .u8 (112 : Nat), .int .i64 l, .int .i64 r], .int .i64 self, .int .i64 letter, .int .i64 S, .int .i64 N] w fun e w' => e = .returned (.bool (lawB 112 letter (S.testBit l) (S.testBit r) (N.testBit self) (N.testBit l))) ∧ Below w.heap.size w w' := by
  have L := hid (let_fin ⟨letter, hx⟩)
  go_enter Try.func110, Try.ntmps110
  go_wp2_with fail
  refine (has_any S l _ hS hl).mono ?_
  rintro e w' ⟨rfl, rfl⟩
  go_wp2_with fail
  refine (has_any S r _ hS hr).mono ?_
  rintro e w' ⟨rfl, rfl⟩
  go_wp2_with fail
  refine (has_any N self _ hN hs).mono ?_
  rintro e w' ⟨rfl, rfl⟩
  go_wp2_with fail
  go_ret
  exact ⟨ret_bool L.out.1, (Below.refl _ _).alloc (Nat.le_refl _) _⟩

set_option maxHeartbeats 400000 in
theorem law_113 (l r self letter S N : Nat) (w : World) (hl : l < 8) (hr : r < 8) (hs : self < 8) (hx : letter < 8) (hS : S < 256) (hN : N < 256) :
    Calls Try.prog 110 #[.agg #[.int .u8 (113 : Nat), .int .i64 l, .int .i64 r], .int .i64 self, .int .i64 letter, .int .i64 S, .int .i64 N] w fun e w' => e = .returned (.bool (lawB 113 letter (S.testBit l) (S.testBit r) (N.testBit self) (N.testBit l))) ∧ Below w.heap.size w w' := by
  have L := hid (let_fin ⟨letter, hx⟩)
  go_enter Try.func110, Try.ntmps110
  go_wp2_with fail
  refine (has_any S l _ hS hl).mono ?_
  rintro e w' ⟨rfl, rfl⟩
  go_wp2_with fail
  refine (has_any S r _ hS hr).mono ?_
  rintro e w' ⟨rfl, rfl⟩
  go_wp2_with fail
  refine (has_any N self _ hN hs).mono ?_
  rintro e w' ⟨rfl, rfl⟩
  go_wp2_with fail
  go_ret
  exact ⟨ret_bool L.out.2.1, (Below.refl _ _).alloc (Nat.le_refl _) _⟩

set_option maxHeartbeats 400000 in
theorem law_114 (l r self letter S N : Nat) (w : World) (hl : l < 8) (hr : r < 8) (hs : self < 8) (hx : letter < 8) (hS : S < 256) (hN : N < 256) :
    Calls Try.prog 110 #[.agg #[.int .u8 (114 : Nat), .int .i64 l, .int .i64 r], .int .i64 self, .int .i64 letter, .int .i64 S, .int .i64 N] w fun e w' => e = .returned (.bool (lawB 114 letter (S.testBit l) (S.testBit r) (N.testBit self) (N.testBit l))) ∧ Below w.heap.size w w' := by
  have L := hid (let_fin ⟨letter, hx⟩)
  go_enter Try.func110, Try.ntmps110
  go_wp2_with fail
  refine (has_any S l _ hS hl).mono ?_
  rintro e w' ⟨rfl, rfl⟩
  go_wp2_with fail
  refine (has_any S r _ hS hr).mono ?_
  rintro e w' ⟨rfl, rfl⟩
  go_wp2_with fail
  refine (has_any N self _ hN hs).mono ?_
  rintro e w' ⟨rfl, rfl⟩
  go_wp2_with fail
  go_ret
  exact ⟨ret_bool L.out.2.2, (Below.refl _ _).alloc (Nat.le_refl _) _⟩

set_option maxHeartbeats 400000 in
theorem law_33 (l r self letter S N : Nat) (w : World) (hl : l < 8) (hr : r < 8) (hs : self < 8) (hx : letter < 8) (hS : S < 256) (hN : N < 256) :
    Calls Try.prog 110 #[.agg #[.int .u8 (33 : Nat), .int .i64 l, .int .i64 r], .int .i64 self, .int .i64 letter, .int .i64 S, .int .i64 N] w fun e w' => e = .returned (.bool (lawB 33 letter (S.testBit l) (S.testBit r) (N.testBit self) (N.testBit l))) ∧ Below w.heap.size w w' := by
  have L := hid (let_fin ⟨letter, hx⟩)
  cases el : S.testBit l
  all_goals
    go_enter Try.func110, Try.ntmps110
    go_wp2_with fail
    refine (has_any S l _ hS hl).mono ?_
    rintro e w' ⟨rfl, rfl⟩
    go_wp2_with fail
    refine (has_any S r _ hS hr).mono ?_
    rintro e w' ⟨rfl, rfl⟩
    go_wp2_with fail
    refine (has_any N self _ hN hs).mono ?_
    rintro e w' ⟨rfl, rfl⟩
    go_wp2_with fail
    go_ret
    exact ⟨rfl, (Below.refl _ _).alloc (Nat.le_refl _) _⟩

set_option maxHeartbeats 400000 in
theorem law_88 (l r self letter S N : Nat) (w : World) (hl : l < 8) (hr : r < 8) (hs : self < 8) (hx : letter < 8) (hS : S < 256) (hN : N < 256) :
    Calls Try.prog 110 #[.agg #[.int .u8 (88 : Nat), .int .i64 l, .int .i64 r], .int .i64 self, .int .i64 letter, .int .i64 S, .int .i64 N] w fun e w' => e = .returned (.bool (lawB 88 letter (S.testBit l) (S.testBit r) (N.testBit self) (N.testBit l))) ∧ Below w.heap.size w w' := by
  have L := hid (let_fin ⟨letter, hx⟩)
  go_enter Try.func110, Try.ntmps110
  go_wp2_with fail
  refine (has_any S l _ hS hl).mono ?_
  rintro e w' ⟨rfl, rfl⟩
  go_wp2_with fail
  refine (has_any S r _ hS hr).mono ?_
  rintro e w' ⟨rfl, rfl⟩
  go_wp2_with fail
  refine (has_any N self _ hN hs).mono ?_
  rintro e w' ⟨rfl, rfl⟩
  go_wp2_with fail
  refine (has_any N l _ hN hl).mono ?_
  rintro e w' ⟨rfl, rfl⟩
  go_wp2_with fail
  go_ret
  exact ⟨rfl, (Below.refl _ _).alloc (Nat.le_refl _) _⟩

set_option maxHeartbeats 400000 in
theorem law_70 (l r self letter S N : Nat) (w : World) (hl : l < 8) (hr : r < 8) (hs : self < 8) (hx : letter < 8) (hS : S < 256) (hN : N < 256) :
    Calls Try.prog 110 #[.agg #[.int .u8 (70 : Nat), .int .i64 l, .int .i64 r], .int .i64 self, .int .i64 letter, .int .i64 S, .int .i64 N] w fun e w' => e = .returned (.bool (lawB 70 letter (S.testBit l) (S.testBit r) (N.testBit self) (N.testBit l))) ∧ Below w.heap.size w w' := by
  have L := hid (let_fin ⟨letter, hx⟩)
  cases el : S.testBit l
  all_goals cases et : N.testBit self
  all_goals
    go_enter Try.func110, Try.ntmps110
    go_wp2_with fail
    refine (has_any S l _ hS hl).mono ?_
    rintro e w' ⟨rfl, rfl⟩
    go_wp2_with fail
    refine (has_any S r _ hS hr).mono ?_
    rintro e w' ⟨rfl, rfl⟩
    go_wp2_with fail
    refine (has_any N self _ hN hs).mono ?_
    rintro e w' ⟨rfl, rfl⟩
    go_wp2_with fail
    go_ret
    exact ⟨rfl, (Below.refl _ _).alloc (Nat.le_refl _) _⟩

set_option maxHeartbeats 400000 in
theorem law_71 (l r self letter S N : Nat) (w : World) (hl : l < 8) (hr : r < 8) (hs : self < 8) (hx : letter < 8) (hS : S < 256) (hN : N < 256) :
    Calls Try.prog 110 #[.agg #[.int .u8 (71 : Nat), .int .i64 l, .int .i64 r], .int .i64 self, .int .i64 letter, .int .i64 S, .int .i64 N] w fun e w' => e = .returned (.bool (lawB 71 letter (S.testBit l) (S.testBit r) (N.testBit self) (N.testBit l))) ∧ Below w.heap.size w w' := by
  have L := hid (let_fin ⟨letter, hx⟩)
  cases el : S.testBit l
  all_goals cases et : N.testBit self
  all_goals
    go_enter Try.func110, Try.ntmps110
    go_wp2_with fail
    refine (has_any S l _ hS hl).mono ?_
    rintro e w' ⟨rfl, rfl⟩
    go_wp2_with fail
    refine (has_any S r _ hS hr).mono ?_
    rintro e w' ⟨rfl, rfl⟩
    go_wp2_with fail
    refine (has_any N self _ hN hs).mono ?_
    rintro e w' ⟨rfl, rfl⟩
    go_wp2_with fail
    go_ret
    exact ⟨rfl, (Below.refl _ _).alloc (Nat.le_refl _) _⟩

set_option maxHeartbeats 400000 in
theorem law_38 (l r self letter S N : Nat) (w : World) (hl : l < 8) (hr : r < 8) (hs : self < 8) (hx : letter < 8) (hS : S < 256) (hN : N < 256) :
    Calls Try.prog 110 #[.agg #[.int .u8 (38 : Nat), .int .i64 l, .int .i64 r], .int .i64 self, .int .i64 letter, .int .i64 S, .int .i64 N] w fun e w' => e = .returned (.bool (lawB 38 letter (S.testBit l) (S.testBit r) (N.testBit self) (N.testBit l))) ∧ Below w.heap.size w w' := by
  have L := hid (let_fin ⟨letter, hx⟩)
  cases el : S.testBit l
  all_goals cases er : S.testBit r
  all_goals
    go_enter Try.func110, Try.ntmps110
    go_wp2_with fail
    refine (has_any S l _ hS hl).mono ?_
    rintro e w' ⟨rfl, rfl⟩
    go_wp2_with fail
    refine (has_any S r _ hS hr).mono ?_
    rintro e w' ⟨rfl, rfl⟩
    go_wp2_with fail
    refine (has_any N self _ hN hs).mono ?_
    rintro e w' ⟨rfl, rfl⟩
    go_wp2_with fail
    go_ret
    exact ⟨rfl, (Below.refl _ _).alloc (Nat.le_refl _) _⟩

set_option maxHeartbeats 400000 in
theorem law_124 (l r self letter S N : Nat) (w : World) (hl : l < 8) (hr : r < 8) (hs : self < 8) (hx : letter < 8) (hS : S < 256) (hN : N < 256) :
    Calls Try.prog 110 #[.agg #[.int .u8 (124 : Nat), .int .i64 l, .int .i64 r], .int .i64 self, .int .i64 letter, .int .i64 S, .int .i64 N] w fun e w' => e = .returned (.bool (lawB 124 letter (S.testBit l) (S.testBit r) (N.testBit self) (N.testBit l))) ∧ Below w.heap.size w w' := by
  have L := hid (let_fin ⟨letter, hx⟩)
  cases el : S.testBit l
  all_goals cases er : S.testBit r
  all_goals
    go_enter Try.func110, Try.ntmps110
    go_wp2_with fail
    refine (has_any S l _ hS hl).mono ?_
    rintro e w' ⟨rfl, rfl⟩
    go_wp2_with fail
    refine (has_any S r _ hS hr).mono ?_
    rintro e w' ⟨rfl, rfl⟩
    go_wp2_with fail
    refine (has_any N self _ hN hs).mono ?_
    rintro e w' ⟨rfl, rfl⟩
    go_wp2_with fail
    go_ret
    exact ⟨rfl, (Below.refl _ _).alloc (Nat.le_refl _) _⟩

set_option maxHeartbeats 400000 in
theorem law_85 (l r self letter S N : Nat) (w : World) (hl : l < 8) (hr : r < 8) (hs : self < 8) (hx : letter < 8) (hS : S < 256) (hN : N < 256) :
    Calls Try.prog 110 #[.agg #[.int .u8 (85 : Nat), .int .i64 l, .int .i64 r], .int .i64 self, .int .i64 letter, .int .i64 S, .int .i64 N] w fun e w' => e = .returned (.bool (lawB 85 letter (S.testBit l) (S.testBit r) (N.testBit self) (N.testBit l))) ∧ Below w.heap.size w w' := by
  have L := hid (let_fin ⟨letter, hx⟩)
  cases el : S.testBit l
  all_goals cases er : S.testBit r
  all_goals cases et : N.testBit self
  all_goals
    go_enter Try.func110, Try.ntmps110
    go_wp2_with fail
    refine (has_any S l _ hS hl).mono ?_
    rintro e w' ⟨rfl, rfl⟩
    go_wp2_with fail
    refine (has_any S r _ hS hr).mono ?_
    rintro e w' ⟨rfl, rfl⟩
    go_wp2_with fail
    refine (has_any N self _ hN hs).mono ?_
    rintro e w' ⟨rfl, rfl⟩
    go_wp2_with fail
    go_ret
    exact ⟨rfl, (Below.refl _ _).alloc (Nat.le_refl _) _⟩

set_option maxHeartbeats 400000 in
theorem law_82 (l r self letter S N : Nat) (w : World) (hl : l < 8) (hr : r < 8) (hs : self < 8) (hx : letter < 8) (hS : S < 256) (hN : N < 256) :
    Calls Try.prog 110 #[.agg #[.int .u8 (82 : Nat), .int .i64 l, .int .i64 r], .int .i64 self, .int .i64 letter, .int .i64 S, .int .i64 N] w fun e w' => e = .returned (.bool (lawB 82 letter (S.testBit l) (S.testBit r) (N.testBit self) (N.testBit l))) ∧ Below w.heap.size w w' := by
  have L := hid (let_fin ⟨letter, hx⟩)
  cases el : S.testBit l
  all_goals cases er : S.testBit r
  all_goals cases et : N.testBit self
  all_goals
    go_enter Try.func110, Try.ntmps110
    go_wp2_with fail
    refine (has_any S l _ hS hl).mono ?_
    rintro e w' ⟨rfl, rfl⟩
    go_wp2_with fail
    refine (has_any S r _ hS hr).mono ?_
    rintro e w' ⟨rfl, rfl⟩
    go_wp2_with fail
    refine (has_any N self _ hN hs).mono ?_
    rintro e w' ⟨rfl, rfl⟩
    go_wp2_with fail
    go_ret
    exact ⟨rfl, (Below.refl _ _).alloc (Nat.le_refl _) _⟩

set_option maxHeartbeats 400000 in
theorem law_other (op : Nat) (l r self letter S N : Nat) (w : World) (hl : l < 8) (hr : r < 8) (hs : self < 8) (hx : letter < 8) (hS : S < 256) (hN : N < 256) (hop : ∀ k ∈ [49, 112, 113, 114, 33, 88, 70, 71, 38, 124, 85, 82], op ≠ k) :
    Calls Try.prog 110 #[.agg #[.int .u8 (op : Nat), .int .i64 l, .int .i64 r], .int .i64 self, .int .i64 letter, .int .i64 S, .int .i64 N] w fun e w' => e = .returned (.bool (lawB op letter (S.testBit l) (S.testBit r) (N.testBit self) (N.testBit l))) ∧ Below w.heap.size w w' := by
  have k49 : ((op : Int) == 49) = false := beq_eq_false_iff_ne.2 (by have := hop 49 (by simp); omega)
  have k112 : ((op : Int) == 112) = false := beq_eq_false_iff_ne.2 (by have := hop 112 (by simp); omega)
  have k113 : ((op : Int) == 113) = false := beq_eq_false_iff_ne.2 (by have := hop 113 (by simp); omega)
  have k114 : ((op : Int) == 114) = false := beq_eq_false_iff_ne.2 (by have := hop 114 (by simp); omega)
  have k33 : ((op : Int) == 33) = false := beq_eq_false_iff_ne.2 (by have := hop 33 (by simp); omega)
  have k88 : ((op : Int) == 88) = false := beq_eq_false_iff_ne.2 (by have := hop 88 (by simp); omega)
  have k70 : ((op : Int) == 70) = false := beq_eq_false_iff_ne.2 (by have := hop 70 (by simp); omega)
  have k71 : ((op : Int) == 71) = false := beq_eq_false_iff_ne.2 (by have := hop 71 (by simp); omega)
  have k38 : ((op : Int) == 38) = false := beq_eq_false_iff_ne.2 (by have := hop 38 (by simp); omega)
  have k124 : ((op : Int) == 124) = false := beq_eq_false_iff_ne.2 (by have := hop 124 (by simp); omega)
  have k85 : ((op : Int) == 85) = false := beq_eq_false_iff_ne.2 (by have := hop 85 (by simp); omega)
  have k82 : ((op : Int) == 82) = false := beq_eq_false_iff_ne.2 (by have := hop 82 (by simp); omega)
  have E : Hid (lawB op letter (S.testBit l) (S.testBit r) (N.testBit self) (N.testBit l) = false) := hid (by unfold lawB; rw [if_neg (hop 49 (by simp))]; rw [if_neg (hop 112 (by simp))]; rw [if_neg (hop 113 (by simp))]; rw [if_neg (hop 114 (by simp))]; rw [if_neg (hop 33 (by simp))]; rw [if_neg (hop 88 (by simp))]; rw [if_neg (hop 70 (by simp))]; rw [if_neg (hop 71 (by simp))]; rw [if_neg (hop 38 (by simp))]; rw [if_neg (hop 124 (by simp))]; rw [if_neg (hop 85 (by simp))]; rw [if_neg (hop 82 (by simp))])
  clear hop
  go_enter Try.func110, Try.ntmps110
  go_wp2_with fail
  refine (has_any S l _ hS hl).mono ?_
  rintro e w' ⟨rfl, rfl⟩
  go_wp2_with fail
  refine (has_any S r _ hS hr).mono ?_
  rintro e w' ⟨rfl, rfl⟩
  go_wp2_with fail
  refine (has_any N self _ hN hs).mono ?_
  rintro e w' ⟨rfl, rfl⟩
  go_wp2_with fail
  go_ret
  exact ⟨by rw [E.out]; rfl, (Below.refl _ _).alloc (Nat.le_refl _) _⟩

theorem law_any (n : Nd) (self letter S N : Nat) (w : World) (hl : n.l < 8) (hr : n.r < 8) (hs : self < 8) (hx : letter < 8) (hS : S < 256) (hN : N < 256) :
    Calls Try.prog 110 #[ndV n, .int .i64 self, .int .i64 letter, .int .i64 S, .int .i64 N] w fun e w' => e = .returned (.bool (lawB n.op letter (S.testBit n.l) (S.testBit n.r) (N.testBit self) (N.testBit n.l))) ∧ Below w.heap.size w w' := by
  obtain ⟨op, l, r⟩ := n
  unfold ndV
  dsimp only at *
  by_cases h49 : op = 49
  · subst h49; exact law_49 l r self letter S N w hl hr hs hx hS hN
  by_cases h112 : op = 112
  · subst h112; exact law_112 l r self letter S N w hl hr hs hx hS hN
  by_cases h113 : op = 113
  · subst h113; exact law_113 l r self letter S N w hl hr hs hx hS hN
  by_cases h114 : op = 114
  · subst h114; exact law_114 l r self letter S N w hl hr hs hx hS hN
  by_cases h33 : op = 33
  · subst h33; exact law_33 l r self letter S N w hl hr hs hx hS hN
  by_cases h88 : op = 88
  · subst h88; exact law_88 l r self letter S N w hl hr hs hx hS hN
  by_cases h70 : op = 70
  · subst h70; exact law_70 l r self letter S N w hl hr hs hx hS hN
  by_cases h71 : op = 71
  · subst h71; exact law_71 l r self letter S N w hl hr hs hx hS hN
  by_cases h38 : op = 38
  · subst h38; exact law_38 l r self letter S N w hl hr hs hx hS hN
  by_cases h124 : op = 124
  · subst h124; exact law_124 l r self letter S N w hl hr hs hx hS hN
  by_cases h85 : op = 85
  · subst h85; exact law_85 l r self letter S N w hl hr hs hx hS hN
  by_cases h82 : op = 82
  · subst h82; exact law_82 l r self letter S N w hl hr hs hx hS hN
  exact law_other op l r self letter S N w hl hr hs hx hS hN (by intro k hk; simp at hk; omega)

/-- Whether a node holds where its law is put off for ever. -/
def lastsB (op : Nat) : Bool := op == 71 || op == 82

set_option maxHeartbeats 400000 in
theorem lasts_any (n : Nd) (w : World) : Calls Try.prog 105 #[ndV n] w fun e w' => e = .returned (.bool (lastsB n.op)) ∧ Below w.heap.size w w' := by
  obtain ⟨op, l, r⟩ := n
  unfold ndV
  dsimp only at *
  by_cases h1 : op = 71
  · subst h1
    go_enter Try.func105, Try.ntmps105
    go_wp2
    go_ret
    exact ⟨rfl, (Below.refl _ _).alloc (Nat.le_refl _) _⟩
  by_cases h2 : op = 82
  · subst h2
    go_enter Try.func105, Try.ntmps105
    go_wp2
    go_ret
    exact ⟨rfl, (Below.refl _ _).alloc (Nat.le_refl _) _⟩
  have k1 : ((op : Int) == 71) = false := beq_eq_false_iff_ne.2 (by omega)
  have k2 : ((op : Int) == 82) = false := beq_eq_false_iff_ne.2 (by omega)
  have E : Hid (lastsB op = false) := hid (by simp [lastsB, h1, h2])
  go_enter Try.func105, Try.ntmps105
  go_wp2
  go_ret
  exact ⟨by rw [E.out]; rfl, (Below.refl _ _).alloc (Nat.le_refl _) _⟩

end Go.Proofs.Ytjagijohfkffiaa
