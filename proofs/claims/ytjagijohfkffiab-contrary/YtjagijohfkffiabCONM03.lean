import Derived.Test.YtjagijohfkffiabCONM02
import Derived.Outline

/- The walk of Law, Lasts. -/
namespace Go.Proofs.Ytjagijohfkffiab
open Go.RowKit
set_option linter.unusedVariables false

/-- What holds at a place, by its letter, what holds there below, and what holds next. -/
def lawB (op letter : Nat) (l r later nl : Bool) : Bool :=
  if op = 49 then true else if op = 112 then letter.testBit 0 else if op = 113 then letter.testBit 1 else if op = 114 then letter.testBit 2 else
  if op = 33 then !l else if op = 88 then nl else if op = 70 then l || later else if op = 71 then l && later else if op = 38 then l && r else if op = 124 then l || r else
  if op = 85 then r || (l && later) else if op = 82 then r && (l || later) else false

theorem let_fin : ∀ x : Fin 8, (bits BinOp.and IntKind.i64 (x.val : Int) 1 != 0) = x.val.testBit 0 ∧ (bits BinOp.and IntKind.i64 (x.val : Int) 2 != 0) = x.val.testBit 1 ∧ (bits BinOp.and IntKind.i64 (x.val : Int) 4 != 0) = x.val.testBit 2 := by decide +kernel

/-- The node as a value. -/
def ndV (n : Nd) : Value := .agg #[.int .u8 n.op, .int .i64 n.l, .int .i64 n.r]

set_option maxHeartbeats 400000 in
theorem law_49 (l r self letter S N : Nat) (w : World) (hl : l < 8) (hr : r < 8) (hs : self < 8) (hx : letter < 8) (hS : S < 256) (hN : N < 256) :
    Calls Try.prog 104 #[.agg #[.int .u8 (49 : Nat), .int .i64 l, .int .i64 r], .int .i64 self, .int .i64 letter, .int .i64 S, .int .i64 N] w fun e w' => e = .returned (.bool (lawB 49 letter (S.testBit l) (S.testBit r) (N.testBit self) (N.testBit l))) ∧ Below w.heap.size w w' := by
  have L := hid (let_fin ⟨letter, hx⟩)
  go_enter Try.func104, Try.ntmps104
  go_wp2_with fail
  refine (has_any S l _ hS hl).mono ?_
  rintro e w' ⟨rfl, rfl⟩
  go_wp2_with fail
  refine (has_any S r _ hS hr).mono ?_
  rintro e w' ⟨rfl, rfl⟩
  go_wp2_with fail
  refine (has_any N self _ hN hs).mono ?_
  rintro e w' ⟨rfl, rfl⟩
  go_wp2_with fail
  go_ret
  exact ⟨rfl, (Below.refl _ _).alloc (Nat.le_refl _) _⟩

set_option maxHeartbeats 400000 in
theorem law_112 (l r self letter S N : Nat) (w : World) (hl : l < 8) (hr : r < 8) (hs : self < 8) (hx : letter < 8) (hS : S < 256) (hN : N < 256) :
    Calls Try.prog 104 #[.agg #[.int .u8 (112 : Nat), .int .i64 l, .int .i64 r], .int .i64 self, .int .i64 letter, .int .i64 S, .int .i64 N] w fun e w' => e = .returned (.bool (lawB 112 letter (S.testBit l) (S.testBit r) (N.testBit self) (N.testBit l))) ∧ Below w.heap.size w w' := by
  have L := hid (let_fin ⟨letter, hx⟩)
  go_enter Try.func104, Try.ntmps104
  go_wp2_with fail
  refine (has_any S l _ hS hl).mono ?_
  rintro e w' ⟨rfl, rfl⟩
  go_wp2_with fail
  refine (has_any S r _ hS hr).mono ?_
  rintro e w' ⟨rfl, rfl⟩
  go_wp2_with fail
  refine (has_any N self _ hN hs).mono ?_
  rintro e w' ⟨rfl, rfl⟩
  go_wp2_with fail
  go_ret
  exact ⟨ret_bool L.out.1, (Below.refl _ _).alloc (Nat.le_refl _) _⟩

set_option maxHeartbeats 400000 in
theorem law_113 (l r self letter S N : Nat) (w : World) (hl : l < 8) (hr : r < 8) (hs : self < 8) (hx : letter < 8) (hS : S < 256) (hN : N < 256) :
    Calls Try.prog 104 #[.agg #[.int .u8 (113 : Nat), .int .i64 l, .int .i64 r], .int .i64 self, .int .i64 letter, .int .i64 S, .int .i64 N] w fun e w' => e = .returned (.bool (lawB 113 letter (S.testBit l) (S.testBit r) (N.testBit self) (N.testBit l))) ∧ Below w.heap.size w w' := by
  have L := hid (let_fin ⟨letter, hx⟩)
  go_enter Try.func104, Try.ntmps104
  go_wp2_with fail
  refine (has_any S l _ hS hl).mono ?_
  rintro e w' ⟨rfl, rfl⟩
  go_wp2_with fail
  refine (has_any S r _ hS hr).mono ?_
  rintro e w' ⟨rfl, rfl⟩
  go_wp2_with fail
  refine (has_any N self _ hN hs).mono ?_
  rintro e w' ⟨rfl, rfl⟩
  go_wp2_with fail
  go_ret
  exact ⟨ret_bool L.out.2.1, (Below.refl _ _).alloc (Nat.le_refl _) _⟩

set_option maxHeartbeats 400000 in
theorem law_114 (l r self letter S N : Nat) (w : World) (hl : l < 8) (hr : r < 8) (hs : self < 8) (hx : letter < 8) (hS : S < 256) (hN : N < 256) :
    Calls Try.prog 104 #[.agg #[.int .u8 (114 : Nat), .int .i64 l, .int .i64 r], .int .i64 self, .int .i64 letter, .int .i64 S, .int .i64 N] w fun e w' => e = .returned (.bool (lawB 114 letter (S.testBit l) (S.testBit r) (N.testBit self) (N.testBit l))) ∧ Below w.heap.size w w' := by
  have L := hid (let_fin ⟨letter, hx⟩)
  go_enter Try.func104, Try.ntmps104
  go_wp2_with fail
  refine (has_any S l _ hS hl).mono ?_
  rintro e w' ⟨rfl, rfl⟩
  go_wp2_with fail
  refine (has_any S r _ hS hr).mono ?_
  rintro e w' ⟨rfl, rfl⟩
  go_wp2_with fail
  refine (has_any N self _ hN hs).mono ?_
  rintro e w' ⟨rfl, rfl⟩
  go_wp2_with fail
  go_ret
  exact ⟨ret_bool L.out.2.2, (Below.refl _ _).alloc (Nat.le_refl _) _⟩

set_option maxHeartbeats 400000 in
theorem law_33 (l r self letter S N : Nat) (w : World) (hl : l < 8) (hr : r < 8) (hs : self < 8) (hx : letter < 8) (hS : S < 256) (hN : N < 256) :
    Calls Try.prog 104 #[.agg #[.int .u8 (33 : Nat), .int .i64 l, .int .i64 r], .int .i64 self, .int .i64 letter, .int .i64 S, .int .i64 N] w fun e w' => e = .returned (.bool (lawB 33 letter (S.testBit l) (S.testBit r) (N.testBit self) (N.testBit l))) ∧ Below w.heap.size w w' := by
  have L := hid (let_fin ⟨letter, hx⟩)
  cases el : S.testBit l
  all_goals
    go_enter Try.func104, Try.ntmps104
    go_wp2_with fail
    refine (has_any S l _ hS hl).mono ?_
    rintro e w' ⟨rfl, rfl⟩
    go_wp2_with fail
    refine (has_any S r _ hS hr).mono ?_
    rintro e w' ⟨rfl, rfl⟩
    go_wp2_with fail
    refine (has_any N self _ hN hs).mono ?_
    rintro e w' ⟨rfl, rfl⟩
    go_wp2_with fail
    go_ret
    exact ⟨rfl, (Below.refl _ _).alloc (Nat.le_refl _) _⟩

set_option maxHeartbeats 400000 in
theorem law_88 (l r self letter S N : Nat) (w : World) (hl : l < 8) (hr : r < 8) (hs : self < 8) (hx : letter < 8) (hS : S < 256) (hN : N < 256) :
    Calls Try.prog 104 #[.agg #[.int .u8 (88 : Nat), .int .i64 l, .int .i64 r], .int .i64 self, .int .i64 letter, .int .i64 S, .int .i64 N] w fun e w' => e = .returned (.bool (lawB 88 letter (S.testBit l) (S.testBit r) (N.testBit self) (N.testBit l))) ∧ Below w.heap.size w w' := by
  have L := hid (let_fin ⟨letter, hx⟩)
  go_enter Try.func104, Try.ntmps104
  go_wp2_with fail
  refine (has_any S l _ hS hl).mono ?_
  rintro e w' ⟨rfl, rfl⟩
  go_wp2_with fail
  refine (has_any S r _ hS hr).mono ?_
  rintro e w' ⟨rfl, rfl⟩
  go_wp2_with fail
  refine (has_any N self _ hN hs).mono ?_
  rintro e w' ⟨rfl, rfl⟩
  go_wp2_with fail
  refine (has_any N l _ hN hl).mono ?_
  rintro e w' ⟨rfl, rfl⟩
  go_wp2_with fail
  go_ret
  exact ⟨rfl, (Below.refl _ _).alloc (Nat.le_refl _) _⟩

set_option maxHeartbeats 400000 in
theorem law_70 (l r self letter S N : Nat) (w : World) (hl : l < 8) (hr : r < 8) (hs : self < 8) (hx : letter < 8) (hS : S < 256) (hN : N < 256) :
    Calls Try.prog 104 #[.agg #[.int .u8 (70 : Nat), .int .i64 l, .int .i64 r], .int .i64 self, .int .i64 letter, .int .i64 S, .int .i64 N] w fun e w' => e = .returned (.bool (lawB 70 letter (S.testBit l) (S.testBit r) (N.testBit self) (N.testBit l))) ∧ Below w.heap.size w w' := by
  have L := hid (let_fin ⟨letter, hx⟩)
  cases el : S.testBit l
  all_goals cases et : N.testBit self
  all_goals
    go_enter Try.func104, Try.ntmps104
    go_wp2_with fail
    refine (has_any S l _ hS hl).mono ?_
    rintro e w' ⟨rfl, rfl⟩
    go_wp2_with fail
    refine (has_any S r _ hS hr).mono ?_
    rintro e w' ⟨rfl, rfl⟩
    go_wp2_with fail
    refine (has_any N self _ hN hs).mono ?_
    rintro e w' ⟨rfl, rfl⟩
    go_wp2_with fail
    go_ret
    exact ⟨rfl, (Below.refl _ _).alloc (Nat.le_refl _) _⟩

set_option maxHeartbeats 400000 in
theorem law_71 (l r self letter S N : Nat) (w : World) (hl : l < 8) (hr : r < 8) (hs : self < 8) (hx : letter < 8) (hS : S < 256) (hN : N < 256) :
    Calls Try.prog 104 #[.agg #[.int .u8 (71 : Nat), .int .i64 l, .int .i64 r], .int .i64 self, .int .i64 letter, .int .i64 S, .int .i64 N] w fun e w' => e = .returned (.bool (lawB 71 letter (S.testBit l) (S.testBit r) (N.testBit self) (N.testBit l))) ∧ Below w.heap.size w w' := by
  have L := hid (let_fin ⟨letter, hx⟩)
  cases el : S.testBit l
  all_goals cases et : N.testBit self
  all_goals
    go_enter Try.func104, Try.ntmps104
    go_wp2_with fail
    refine (has_any S l _ hS hl).mono ?_
    rintro e w' ⟨rfl, rfl⟩
    go_wp2_with fail
    refine (has_any S r _ hS hr).mono ?_
    rintro e w' ⟨rfl, rfl⟩
    go_wp2_with fail
    refine (has_any N self _ hN hs).mono ?_
    rintro e w' ⟨rfl, rfl⟩
    go_wp2_with fail
    go_ret
    exact ⟨rfl, (Below.refl _ _).alloc (Nat.le_refl _) _⟩

set_option maxHeartbeats 400000 in
theorem law_38 (l r self letter S N : Nat) (w : World) (hl : l < 8) (hr : r < 8) (hs : self < 8) (hx : letter < 8) (hS : S < 256) (hN : N < 256) :
    Calls Try.prog 104 #[.agg #[.int .u8 (38 : Nat), .int .i64 l, .int .i64 r], .int .i64 self, .int .i64 letter, .int .i64 S, .int .i64 N] w fun e w' => e = .returned (.bool (lawB 38 letter (S.testBit l) (S.testBit r) (N.testBit self) (N.testBit l))) ∧ Below w.heap.size w w' := by
  have L := hid (let_fin ⟨letter, hx⟩)
  cases el : S.testBit l
  all_goals cases er : S.testBit r
  all_goals
    go_enter Try.func104, Try.ntmps104
    go_wp2_with fail
    refine (has_any S l _ hS hl).mono ?_
    rintro e w' ⟨rfl, rfl⟩
    go_wp2_with fail
    refine (has_any S r _ hS hr).mono ?_
    rintro e w' ⟨rfl, rfl⟩
    go_wp2_with fail
    refine (has_any N self _ hN hs).mono ?_
    rintro e w' ⟨rfl, rfl⟩
    go_wp2_with fail
    go_ret
    exact ⟨rfl, (Below.refl _ _).alloc (Nat.le_refl _) _⟩

set_option maxHeartbeats 400000 in
theorem law_124 (l r self letter S N : Nat) (w : World) (hl : l < 8) (hr : r < 8) (hs : self < 8) (hx : letter < 8) (hS : S < 256) (hN : N < 256) :
    Calls Try.prog 104 #[.agg #[.int .u8 (124 : Nat), .int .i64 l, .int .i64 r], .int .i64 self, .int .i64 letter, .int .i64 S, .int .i64 N] w fun e w' => e = .returned (.bool (lawB 124 letter (S.testBit l) (S.testBit r) (N.testBit self) (N.testBit l))) ∧ Below w.heap.size w w' := by
  have L := hid (let_fin ⟨letter, hx⟩)
  cases el : S.testBit l
  all_goals cases er : S.testBit r
  all_goals
    go_enter Try.func104, Try.ntmps104
    go_wp2_with fail
    refine (has_any S l _ hS hl).mono ?_
    rintro e w' ⟨rfl, rfl⟩
    go_wp2_with fail
    refine (has_any S r _ hS hr).mono ?_
    rintro e w' ⟨rfl, rfl⟩
    go_wp2_with fail
    refine (has_any N self _ hN hs).mono ?_
    rintro e w' ⟨rfl, rfl⟩
    go_wp2_with fail
    go_ret
    exact ⟨rfl, (Below.refl _ _).alloc (Nat.le_refl _) _⟩

set_option maxHeartbeats 400000 in
theorem law_85 (l r self letter S N : Nat) (w : World) (hl : l < 8) (hr : r < 8) (hs : self < 8) (hx : letter < 8) (hS : S < 256) (hN : N < 256) :
    Calls Try.prog 104 #[.agg #[.int .u8 (85 : Nat), .int .i64 l, .int .i64 r], .int .i64 self, .int .i64 letter, .int .i64 S, .int .i64 N] w fun e w' => e = .returned (.bool (lawB 85 letter (S.testBit l) (S.testBit r) (N.testBit self) (N.testBit l))) ∧ Below w.heap.size w w' := by
  have L := hid (let_fin ⟨letter, hx⟩)
  cases el : S.testBit l
  all_goals cases er : S.testBit r
  all_goals cases et : N.testBit self
  all_goals
    go_enter Try.func104, Try.ntmps104
    go_wp2_with fail
    refine (has_any S l _ hS hl).mono ?_
    rintro e w' ⟨rfl, rfl⟩
    go_wp2_with fail
    refine (has_any S r _ hS hr).mono ?_
    rintro e w' ⟨rfl, rfl⟩
    go_wp2_with fail
    refine (has_any N self _ hN hs).mono ?_
    rintro e w' ⟨rfl, rfl⟩
    go_wp2_with fail
    go_ret
    exact ⟨rfl, (Below.refl _ _).alloc (Nat.le_refl _) _⟩

set_option maxHeartbeats 400000 in
theorem law_82 (l r self letter S N : Nat) (w : World) (hl : l < 8) (hr : r < 8) (hs : self < 8) (hx : letter < 8) (hS : S < 256) (hN : N < 256) :
    Calls Try.prog 104 #[.agg #[.int .u8 (82 : Nat), .int .i64 l, .int .i64 r], .int .i64 self, .int .i64 letter, .int .i64 S, .int .i64 N] w fun e w' => e = .returned (.bool (lawB 82 letter (S.testBit l) (S.testBit r) (N.testBit self) (N.testBit l))) ∧ Below w.heap.size w w' := by
  have L := hid (let_fin ⟨letter, hx⟩)
  cases el : S.testBit l
  all_goals cases er : S.testBit r
  all_goals cases et : N.testBit self
  all_goals
    go_enter Try.func104, Try.ntmps104
    go_wp2_with fail
    refine (has_any S l _ hS hl).mono ?_
    rintro e w' ⟨rfl, rfl⟩
    go_wp2_with fail
    refine (has_any S r _ hS hr).mono ?_
    rintro e w' ⟨rfl, rfl⟩
    go_wp2_with fail
    refine (has_any N self _ hN hs).mono ?_
    rintro e w' ⟨rfl, rfl⟩
    go_wp2_with fail
    go_ret
    exact ⟨rfl, (Below.refl _ _).alloc (Nat.le_refl _) _⟩

set_option maxHeartbeats 400000 in
theorem law_other (op : Nat) (l r self letter S N : Nat) (w : World) (hl : l < 8) (hr : r < 8) (hs : self < 8) (hx : letter < 8) (hS : S < 256) (hN : N < 256) (hop : ∀ k ∈ [49, 112, 113, 114, 33, 88, 70, 71, 38, 124, 85, 82], op ≠ k) :
    Calls Try.prog 104 #[.agg #[.int .u8 (op : Nat), .int .i64 l, .int .i64 r], .int .i64 self, .int .i64 letter, .int .i64 S, .int .i64 N] w fun e w' => e = .returned (.bool (lawB op letter (S.testBit l) (S.testBit r) (N.testBit self) (N.testBit l))) ∧ Below w.heap.size w w' := by
  have k49 : ((op : Int) == 49) = false := beq_eq_false_iff_ne.2 (by have := hop 49 (by simp); omega)
  have k112 : ((op : Int) == 112) = false := beq_eq_false_iff_ne.2 (by have := hop 112 (by simp); omega)
  have k113 : ((op : Int) == 113) = false := beq_eq_false_iff_ne.2 (by have := hop 113 (by simp); omega)
  have k114 : ((op : Int) == 114) = false := beq_eq_false_iff_ne.2 (by have := hop 114 (by simp); omega)
  have k33 : ((op : Int) == 33) = false := beq_eq_false_iff_ne.2 (by have := hop 33 (by simp); omega)
  have k88 : ((op : Int) == 88) = false := beq_eq_false_iff_ne.2 (by have := hop 88 (by simp); omega)
  have k70 : ((op : Int) == 70) = false := beq_eq_false_iff_ne.2 (by have := hop 70 (by simp); omega)
  have k71 : ((op : Int) == 71) = false := beq_eq_false_iff_ne.2 (by have := hop 71 (by simp); omega)
  have k38 : ((op : Int) == 38) = false := beq_eq_false_iff_ne.2 (by have := hop 38 (by simp); omega)
  have k124 : ((op : Int) == 124) = false := beq_eq_false_iff_ne.2 (by have := hop 124 (by simp); omega)
  have k85 : ((op : Int) == 85) = false := beq_eq_false_iff_ne.2 (by have := hop 85 (by simp); omega)
  have k82 : ((op : Int) == 82) = false := beq_eq_false_iff_ne.2 (by have := hop 82 (by simp); omega)
  have E : Hid (lawB op letter (S.testBit l) (S.testBit r) (N.testBit self) (N.testBit l) = false) := hid (by unfold lawB; rw [if_neg (hop 49 (by simp))]; rw [if_neg (hop 112 (by simp))]; rw [if_neg (hop 113 (by simp))]; rw [if_neg (hop 114 (by simp))]; rw [if_neg (hop 33 (by simp))]; rw [if_neg (hop 88 (by simp))]; rw [if_neg (hop 70 (by simp))]; rw [if_neg (hop 71 (by simp))]; rw [if_neg (hop 38 (by simp))]; rw [if_neg (hop 124 (by simp))]; rw [if_neg (hop 85 (by simp))]; rw [if_neg (hop 82 (by simp))])
  clear hop
  go_enter Try.func104, Try.ntmps104
  go_wp2_with fail
  refine (has_any S l _ hS hl).mono ?_
  rintro e w' ⟨rfl, rfl⟩
  go_wp2_with fail
  refine (has_any S r _ hS hr).mono ?_
  rintro e w' ⟨rfl, rfl⟩
  go_wp2_with fail
  refine (has_any N self _ hN hs).mono ?_
  rintro e w' ⟨rfl, rfl⟩
  go_wp2_with fail
  go_ret
  exact ⟨by rw [E.out]; rfl, (Below.refl _ _).alloc (Nat.le_refl _) _⟩

theorem law_any (n : Nd) (self letter S N : Nat) (w : World) (hl : n.l < 8) (hr : n.r < 8) (hs : self < 8) (hx : letter < 8) (hS : S < 256) (hN : N < 256) :
    Calls Try.prog 104 #[ndV n, .int .i64 self, .int .i64 letter, .int .i64 S, .int .i64 N] w fun e w' => e = .returned (.bool (lawB n.op letter (S.testBit n.l) (S.testBit n.r) (N.testBit self) (N.testBit n.l))) ∧ Below w.heap.size w w' := by
  obtain ⟨op, l, r⟩ := n
  unfold ndV
  dsimp only at *
  by_cases h49 : op = 49
  · subst h49; exact law_49 l r self letter S N w hl hr hs hx hS hN
  by_cases h112 : op = 112
  · subst h112; exact law_112 l r self letter S N w hl hr hs hx hS hN
  by_cases h113 : op = 113
  · subst h113; exact law_113 l r self letter S N w hl hr hs hx hS hN
  by_cases h114 : op = 114
  · subst h114; exact law_114 l r self letter S N w hl hr hs hx hS hN
  by_cases h33 : op = 33
  · subst h33; exact law_33 l r self letter S N w hl hr hs hx hS hN
  by_cases h88 : op = 88
  · subst h88; exact law_88 l r self letter S N w hl hr hs hx hS hN
  by_cases h70 : op = 70
  · subst h70; exact law_70 l r self letter S N w hl hr hs hx hS hN
  by_cases h71 : op = 71
  · subst h71; exact law_71 l r self letter S N w hl hr hs hx hS hN
  by_cases h38 : op = 38
  · subst h38; exact law_38 l r self letter S N w hl hr hs hx hS hN
  by_cases h124 : op = 124
  · subst h124; exact law_124 l r self letter S N w hl hr hs hx hS hN
  by_cases h85 : op = 85
  · subst h85; exact law_85 l r self letter S N w hl hr hs hx hS hN
  by_cases h82 : op = 82
  · subst h82; exact law_82 l r self letter S N w hl hr hs hx hS hN
  exact law_other op l r self letter S N w hl hr hs hx hS hN (by intro k hk; simp at hk; omega)

/-- Whether a node holds where its law is put off for ever. -/
def lastsB (op : Nat) : Bool := op == 71 || op == 82

set_option maxHeartbeats 400000 in
theorem lasts_any (n : Nd) (w : World) : Calls Try.prog 106 #[ndV n] w fun e w' => e = .returned (.bool (lastsB n.op)) ∧ Below w.heap.size w w' := by
  obtain ⟨op, l, r⟩ := n
  unfold ndV
  dsimp only at *
  by_cases h1 : op = 71
  · subst h1
    go_enter Try.func106, Try.ntmps106
    go_wp2
    go_ret
    exact ⟨rfl, (Below.refl _ _).alloc (Nat.le_refl _) _⟩
  by_cases h2 : op = 82
  · subst h2
    go_enter Try.func106, Try.ntmps106
    go_wp2
    go_ret
    exact ⟨rfl, (Below.refl _ _).alloc (Nat.le_refl _) _⟩
  have k1 : ((op : Int) == 71) = false := beq_eq_false_iff_ne.2 (by omega)
  have k2 : ((op : Int) == 82) = false := beq_eq_false_iff_ne.2 (by omega)
  have E : Hid (lastsB op = false) := hid (by simp [lastsB, h1, h2])
  go_enter Try.func106, Try.ntmps106
  go_wp2
  go_ret
  exact ⟨by rw [E.out]; rfl, (Below.refl _ _).alloc (Nat.le_refl _) _⟩

end Go.Proofs.Ytjagijohfkffiab

/- Plain mathematics: the program's table, and that it tells what a formula means. -/
namespace Go.Proofs.Ytjagijohfkffiab

/-- A place: its letter, the set of nodes that hold there. -/
def heldAt (ps : List (Nat × Nat)) (i : Nat) : Nat := (ps.getD i (0, 0)).2
def newHeld (n : Nd) (k : Nat) (p : Nat × Nat) (N : Nat) : Nat := wth p.2 k (lawB n.op p.1 (p.2.testBit n.l) (p.2.testBit n.r) (N.testBit k) (N.testBit n.l))

/-- From the last place to the first; what the first holds. -/
def sweepL (n : Nd) (k : Nat) (N : Nat) : List (Nat × Nat) → List (Nat × Nat) × Nat
  | [] => ([], N)
  | p :: ps => ((p.1, newHeld n k p (sweepL n k N ps).2) :: (sweepL n k N ps).1, newHeld n k p (sweepL n k N ps).2)

def startL (n : Nd) (k : Nat) (ps : List (Nat × Nat)) : List (Nat × Nat) := ps.map fun p => (p.1, wth p.2 k (lastsB n.op))
def fillL (n : Nd) (k back : Nat) (ps : List (Nat × Nat)) : List (Nat × Nat) :=
  (sweepL n k (heldAt (sweepL n k (heldAt (startL n k ps) back) (startL n k ps)).1 back) (sweepL n k (heldAt (startL n k ps) back) (startL n k ps)).1).1

end Go.Proofs.Ytjagijohfkffiab

/- Plain mathematics: what a text's nodes are like; the table of a whole formula. -/
namespace Go.Proofs.Ytjagijohfkffiab

def Wf2 (ns : List Nd) : Prop := ∀ (i : Nat) (n : Nd), ns[i]? = some n → (leafB n.op = true ∧ n.l = 0 ∧ n.r = 0) ∨ (oneB n.op = true ∧ n.l < i ∧ n.r = 0) ∨ (twoB n.op = true ∧ n.l < i ∧ n.r < i)

theorem Wf2.snoc {ns : List Nd} (h : Wf2 ns) (n : Nd) (hn : (leafB n.op = true ∧ n.l = 0 ∧ n.r = 0) ∨ (oneB n.op = true ∧ n.l < ns.length ∧ n.r = 0) ∨ (twoB n.op = true ∧ n.l < ns.length ∧ n.r < ns.length)) : Wf2 (ns ++ [n]) := by
  intro i m hm
  by_cases hi : i < ns.length
  · rw [List.getElem?_append_left hi] at hm
    exact h i m hm
  · rw [List.getElem?_append_right (by omega)] at hm
    have : i = ns.length := by
      have := (List.getElem?_eq_some_iff.1 hm).1
      simp at this; omega
    subst this
    simp at hm
    subst hm
    exact hn

theorem ps_wf2 : ∀ (k : Nat) (s : ByteArray) (a : Nat) (ns : List Nd) (a' : Nat) (ns' : List Nd), ps k s a ns = some (a', ns') → Wf2 ns → Wf2 ns' ∧ ∃ ms, ns' = ns ++ ms
  | 0, _, _, _, _, _, h, _ => by simp [ps] at h
  | k + 1, s, a, ns, a', ns', h, hw => by
    by_cases b1 : leafB (bt s a) = true
    · rw [ps_leaf b1] at h
      simp only [Option.some.injEq, Prod.mk.injEq] at h
      obtain ⟨rfl, rfl⟩ := h
      exact ⟨hw.snoc _ (Or.inl ⟨b1, rfl, rfl⟩), _, rfl⟩
    · rw [Bool.not_eq_true] at b1
      by_cases b2 : oneB (bt s a) = true
      · rw [ps_one b2] at h
        unfold ps1 at h
        cases e : ps k s (a + 1) ns with
        | none => rw [e] at h; simp at h
        | some x =>
          obtain ⟨a1, n1⟩ := x
          rw [e] at h
          simp only [Option.some.injEq, Prod.mk.injEq] at h
          obtain ⟨rfl, rfl⟩ := h
          have g := ps_grows k s _ _ _ _ e
          obtain ⟨h1, ms, h2⟩ := ps_wf2 k s _ _ _ _ e hw
          exact ⟨h1.snoc _ (Or.inr (Or.inl ⟨b2, by simp only; omega, rfl⟩)), _, by rw [h2, List.append_assoc]⟩
      · rw [Bool.not_eq_true] at b2
        by_cases b3 : bt s a = 40
        · rw [ps_two b3] at h
          unfold ps2 at h
          cases e : ps k s (a + 1) ns with
          | none => rw [e] at h; simp at h
          | some x =>
            obtain ⟨a1, n1⟩ := x
            rw [e] at h
            simp only at h
            by_cases b4 : twoB (bt s a1) = true
            · rw [if_pos b4] at h
              cases e2 : ps k s (a1 + 1) n1 with
              | none => rw [e2] at h; simp at h
              | some x =>
                obtain ⟨a2, n2⟩ := x
                rw [e2] at h
                simp only at h
                by_cases b5 : bt s a2 = 41
                · rw [if_pos b5] at h
                  simp only [Option.some.injEq, Prod.mk.injEq] at h
                  obtain ⟨rfl, rfl⟩ := h
                  have g1 := ps_grows k s _ _ _ _ e
                  have g2 := ps_grows k s _ _ _ _ e2
                  obtain ⟨h1, ms1, q1⟩ := ps_wf2 k s _ _ _ _ e hw
                  obtain ⟨h2, ms2, q2⟩ := ps_wf2 k s _ _ _ _ e2 h1
                  exact ⟨h2.snoc _ (Or.inr (Or.inr ⟨b4, by simp only; omega, by simp only; omega⟩)), _, by rw [q2, q1, List.append_assoc, List.append_assoc]⟩
                · rw [if_neg b5] at h; simp at h
            · rw [if_neg b4] at h; simp at h
        · rw [ps_no b1 b2 b3] at h; simp at h

/-- The nodes of a formula that is one. -/
structure Good (ns : List Nd) : Prop where
  pos : 0 < ns.length
  le : ns.length ≤ 8
  wf : Wf2 ns

theorem parse_good {s : ByteArray} (h : (parseOf s).1 = 0) : Good (parseOf s).2 := by
  unfold parseOf at h ⊢
  split at h
  · simp at h
  · rename_i h1
    rw [if_neg h1]
    cases e : ps 25 s 0 [] with
    | none => rw [e] at h; simp at h
    | some x =>
      obtain ⟨a, ns⟩ := x
      rw [e] at h
      simp only at h ⊢
      split at h
      · rename_i h2
        rw [if_pos h2]
        split at h
        · simp at h
        · rename_i h3
          rw [if_neg h3]
          have g := ps_grows _ _ _ _ _ _ e
          have w := (ps_wf2 _ _ _ _ _ _ e (by intro i n h; simp at h)).1
          have g2 := g.2.2.2
          simp at g2
          exact ⟨g2, Nat.not_lt.1 h3, w⟩
      · simp at h

theorem Wf2.small {ns : List Nd} (h : Wf2 ns) (hl : ns.length ≤ 8) {i : Nat} {n : Nd} (hn : ns[i]? = some n) : n.l < 8 ∧ n.r < 8 := by
  have hi := (List.getElem?_eq_some_iff.1 hn).1
  rcases h i n hn with ⟨_, h1, h2⟩ | ⟨_, h1, h2⟩ | ⟨_, h1, h2⟩ <;> omega

def ndAt (ns : List Nd) (k : Nat) : Nd := ns.getD k ⟨0, 0, 0⟩

/-- The table behind k nodes. -/
def tabTo (back : Nat) (ns : List Nd) (ps : List (Nat × Nat)) : Nat → List (Nat × Nat)
  | 0 => ps
  | k + 1 => fillL (ndAt ns k) k back (tabTo back ns ps k)

/-- What the program's Holds answers of letters xs (stem and loop). -/
def holdsB (back : Nat) (ns : List Nd) (xs : List Nat) : Bool := (heldAt (tabTo back ns (xs.map fun x => (x, 0)) ns.length) 0).testBit (ns.length - 1)

def ltOf (xs : List Nat) (i : Nat) : Nat := xs.getD i 0

end Go.Proofs.Ytjagijohfkffiab

/- The walks of Waits, End, before, settled. -/
namespace Go.Proofs.Ytjagijohfkffiab
open Go.RowKit
set_option linter.unusedVariables false

/-- The nodes of a formula in memory. -/
structure NdM (w : World) (gn : Nat) (ns : List Nd) : Prop where
  lt : gn < w.heap.size
  c0 : ∀ i, i < ns.length → w.cell? ⟨gn, i * 3, none⟩ = some (.int .u8 (ndAt ns i).op)
  c1 : ∀ i, i < ns.length → w.cell? ⟨gn, i * 3 + 1, none⟩ = some (.int .i64 (ndAt ns i).l)
  c2 : ∀ i, i < ns.length → w.cell? ⟨gn, i * 3 + 2, none⟩ = some (.int .i64 (ndAt ns i).r)
theorem NdM.below {B : Nat} {w w' : World} {gn : Nat} {ns : List Nd} (h : NdM w gn ns) (hb : Below B w w') (hB : gn < B) : NdM w' gn ns :=
  ⟨Nat.lt_of_lt_of_le h.lt hb.size, fun i hi => (hb.cell (p := ⟨gn, i * 3, none⟩) hB).trans (h.c0 i hi), fun i hi => (hb.cell (p := ⟨gn, i * 3 + 1, none⟩) hB).trans (h.c1 i hi), fun i hi => (hb.cell (p := ⟨gn, i * 3 + 2, none⟩) hB).trans (h.c2 i hi)⟩

def waitsB (op : Nat) : Bool := op == 70 || op == 85 || lastsB op
def endN (n : Nd) : Nat := if n.op = 85 ∨ n.op = 82 then n.r else n.l

theorem waits_any (n : Nd) (w : World) : Calls Try.prog 65 #[ndV n] w fun e w' => e = .returned (.bool (waitsB n.op)) ∧ Below w.heap.size w w' := by
  obtain ⟨op, l, r⟩ := n
  have LW := fun W => lasts_any ⟨op, l, r⟩ W
  unfold ndV at *
  dsimp only at *
  by_cases h1 : op = 70
  · subst h1
    clear LW
    go_enter Try.func65, Try.ntmps65
    go_wp2_with fail
    go_ret
    exact ⟨rfl, (Below.refl _ _).alloc (Nat.le_refl _) _⟩
  by_cases h2 : op = 85
  · subst h2
    clear LW
    go_enter Try.func65, Try.ntmps65
    go_wp2_with fail
    go_ret
    exact ⟨rfl, (Below.refl _ _).alloc (Nat.le_refl _) _⟩
  have k1 : ((op : Int) == 70) = false := beq_eq_false_iff_ne.2 (by omega)
  have k2 : ((op : Int) == 85) = false := beq_eq_false_iff_ne.2 (by omega)
  have E : Hid (waitsB op = lastsB op) := hid (by simp [waitsB, h1, h2])
  go_enter Try.func65, Try.ntmps65
  go_wp2_with fail
  refine (LW _).mono ?_
  rintro e w' ⟨rfl, hb⟩
  go_wp2_with fail
  go_ret
  exact ⟨by rw [E.out]; rfl, ((Below.refl _ _).alloc (Nat.le_refl _) _).trans (hb.mono (by simp))⟩

theorem end_any (n : Nd) (w : World) : Calls Try.prog 107 #[ndV n] w fun e w' => e = .returned (.int .i64 (endN n : Nat)) ∧ Below w.heap.size w w' := by
  obtain ⟨op, l, r⟩ := n
  unfold ndV
  dsimp only at *
  by_cases h1 : op = 85
  · subst h1
    go_enter Try.func107, Try.ntmps107
    go_wp2_with fail
    go_ret
    exact ⟨by simp [endN], (Below.refl _ _).alloc (Nat.le_refl _) _⟩
  by_cases h2 : op = 82
  · subst h2
    go_enter Try.func107, Try.ntmps107
    go_wp2_with fail
    go_ret
    exact ⟨by simp [endN], (Below.refl _ _).alloc (Nat.le_refl _) _⟩
  have k1 : ((op : Int) == 85) = false := beq_eq_false_iff_ne.2 (by omega)
  have k2 : ((op : Int) == 82) = false := beq_eq_false_iff_ne.2 (by omega)
  have E : Hid (endN ⟨op, l, r⟩ = l) := hid (by simp [endN, h1, h2])
  go_enter Try.func107, Try.ntmps107
  go_wp2_with fail
  go_ret
  exact ⟨by rw [E.out]; rfl, (Below.refl _ _).alloc (Nat.le_refl _) _⟩

/-- The view before, node by node. -/
def befTo (ns : List Nd) (x N : Nat) : Nat → Nat
  | 0 => 0
  | k + 1 => wth (befTo ns x N k) k (lawB (ndAt ns k).op x ((befTo ns x N k).testBit (ndAt ns k).l) ((befTo ns x N k).testBit (ndAt ns k).r) (N.testBit k) (N.testBit (ndAt ns k).l))
def bef (ns : List Nd) (x N : Nat) : Nat := befTo ns x N ns.length
theorem befTo_lt (ns : List Nd) (x N : Nat) : ∀ k, k ≤ 8 → befTo ns x N k < 256
  | 0, _ => by simp [befTo]
  | k + 1, h => wth_lt (befTo_lt ns x N k (by omega)) (by omega)
theorem bef_lt {ns : List Nd} (h : ns.length ≤ 8) (x N : Nat) : bef ns x N < 256 := befTo_lt ns x N _ h
theorem ndAt_gets {ns : List Nd} {k : Nat} (h : k < ns.length) : ns[k]? = some (ndAt ns k) := by simp [ndAt, List.getD, List.getElem?_eq_getElem h]

set_option maxHeartbeats 1600000 in
set_option maxRecDepth 100000 in
theorem before_any (gn m ncap x N : Nat) (ns : List Nd) (w : World) (hm : NdM w gn ns) (hg : Good ns) (hlm : ns.length = m) (hx : x < 8) (hN : N < 256) :
    Calls Try.prog 64 #[.slice (some ⟨gn, 0, none⟩) m ncap, .int .i64 x, .int .i64 N] w fun e w' => e = .returned (.int .u8 (bef ns x N : Nat)) ∧ Below w.heap.size w w' := by
  have hle := hg.le
  have HG := hid hg
  have HM := hid hm
  have hgn := hm.lt
  have HE : Hid (befTo ns x N m = bef ns x N) := hid (by rw [← hlm]; rfl)
  have HL := hid hlm
  have hm8 : m ≤ 8 := by omega
  clear hm hg hle hlm
  go_enter Try.func64, Try.ntmps64
  go_wp2_with fail
  go_loopw [7, 13] (fun h i wq => ∃ k : Nat, k ≤ m ∧ i = .int .i64 k ∧ h = .int .i64 (befTo ns x N k : Nat) ∧ Below w.heap.size w wq) (fun _ i _ => m - (intOf i).toNat)
  case atStart => exact ⟨0, Nat.zero_le _, rfl, rfl, Below.refl _ _⟩
  case round =>
    obtain ⟨k, hk, rfl, rfl, hb⟩ := hrel
    by_cases hlk : k < m
    · have hk8 : k < 8 := by omega
      have hS := befTo_lt ns x N k (by omega)
      obtain ⟨h1, h2⟩ := Wf2.small HG.out.wf HG.out.le (ndAt_gets (ns := ns) (k := k) (by rw [HL.out]; exact hlk))
      have n0 := (hb.cell (p := ⟨gn, k * 3, none⟩) hgn).trans (HM.out.c0 k (by rw [HL.out]; exact hlk))
      have n1 := (hb.cell (p := ⟨gn, k * 3 + 1, none⟩) hgn).trans (HM.out.c1 k (by rw [HL.out]; exact hlk))
      have n2 := (hb.cell (p := ⟨gn, k * 3 + 2, none⟩) hgn).trans (HM.out.c2 k (by rw [HL.out]; exact hlk))
      have LW := fun W => law_any (ndAt ns k) k x (befTo ns x N k) N W h1 h2 hk8 hx hS hN
      have HS : Hid (befTo ns x N (k + 1) = wth (befTo ns x N k) k (lawB (ndAt ns k).op x ((befTo ns x N k).testBit (ndAt ns k).l) ((befTo ns x N k).testBit (ndAt ns k).r) (N.testBit k) (N.testBit (ndAt ns k).l))) := hid rfl
      unfold ndV at LW
      generalize ndAt ns k = nd at *
      generalize befTo ns x N k = S at *
      go_wp2_with fail
      refine (LW _).mono ?_
      rintro e w2 ⟨rfl, hb2⟩
      clear LW n0 n1 n2
      generalize lawB nd.op x (S.testBit nd.l) (S.testBit nd.r) (N.testBit k) (N.testBit nd.l) = v at *
      go_wp2_with fail
      refine (with_any S k v _ hS hk8).mono ?_
      rintro e w3 ⟨rfl, rfl⟩
      go_wp2_with fail
      go_roundw
      case rel => exact ⟨k + 1, by omega, by go_num, by rw [HS.out], (hb.alloc hb.size _).trans (hb2.mono (by have := hb.size; simp; omega))⟩
      case measure => simp [intOf]; omega
    · obtain rfl : k = m := by omega
      have hS := befTo_lt ns x N k (by omega)
      have e1 : IntKind.u8.wrap ((befTo ns x N k : Nat) : Int) = ((befTo ns x N k : Nat) : Int) := by
        rw [IntKind.wrap_u8]; omega
      go_wp2_with fail
      go_ret
      exact ⟨by rw [← HE.out]; rfl, hb⟩

end Go.Proofs.Ytjagijohfkffiab
