import Derived.Test.YtjagijohfkffiabFOUM01

/- The walk of Law, Lasts. -/
namespace Go.Proofs.Ytjagijohfkffiab
open Go.RowKit
set_option linter.unusedVariables false

/-- What holds at a place, by its letter, what holds there below, and what holds next. -/
def lawB (op letter : Nat) (l r later nl : Bool) : Bool :=
  if op = 49 then true else if op = 112 then letter.testBit 0 else if op = 113 then letter.testBit 1 else if op = 114 then letter.testBit 2 else
  if op = 33 then !l else if op = 88 then nl else if op = 70 then l || later else if op = 71 then l && later else if op = 38 then l && r else if op = 124 then l || r else
  if op = 85 then r || (l && later) else if op = 82 then r && (l || later) else false

theorem let_fin : ∀ x : Fin 8, (bits BinOp.and IntKind.i64 (x.val : Int) 1 != 0) = x.val.testBit 0 ∧ (bits BinOp.and IntKind.i64 (x.val : Int) 2 != 0) = x.val.testBit 1 ∧ (bits BinOp.and IntKind.i64 (x.val : Int) 4 != 0) = x.val.testBit 2 := by decide +kernel

/-- The node as a value. -/
def ndV (n : Nd) : Value := .agg #[.int .u8 n.op, .int .i64 n.l, .int .i64 n.r]

set_option maxHeartbeats 400000 in
theorem law_49 (l r self letter S N : Nat) (w : World) (hl : l < 8) (hr : r < 8) (hs : self < 8) (hx : letter < 8) (hS : S < 256) (hN : N < 256) :
    Calls Try.prog 104 #[.agg #[.int .u8 (49 : Nat), .int .i64 l, .int .i64 r], .int .i64 self, .int .i64 letter, .int .i64 S, .int .i64 N] w fun e w' => e = .returned (.bool (lawB 49 letter (S.testBit l) (S.testBit r) (N.testBit self) (N.testBit l))) ∧ Below w.heap.size w w' := by
  have L := hid (let_fin ⟨letter, hx⟩)
  go_enter Try.func104, Try.ntmps104
  go_wp2_with fail
  refine (has_any S l _ hS hl).mono ?_
  rintro e w' ⟨rfl, rfl⟩
  go_wp2_with fail
  refine (has_any S r _ hS hr).mono ?_
  rintro e w' ⟨rfl, rfl⟩
  go_wp2_with fail
  refine (has_any N self _ hN hs).mono ?_
  rintro e w' ⟨rfl, rfl⟩
  go_wp2_with fail
  go_ret
  exact ⟨rfl, (Below.refl _ _).alloc (Nat.le_refl _) _⟩

set_option maxHeartbeats 400000 in
theorem law_112 (l r self letter S N : Nat) (w : World) (hl : l < 8) (hr : r < 8) (hs : self < 8) (hx : letter < 8) (hS : S < 256) (hN : N < 256) :
    Calls Try.prog 104 #[.agg #[.int .u8 (112 : Nat), .int .i64 l, .int .i64 r], .int .i64 self, .int .i64 letter, .int .i64 S, .int .i64 N] w fun e w' => e = .returned (.bool (lawB 112 letter (S.testBit l) (S.testBit r) (N.testBit self) (N.testBit l))) ∧ Below w.heap.size w w' := by
  have L := hid (let_fin ⟨letter, hx⟩)
  go_enter Try.func104, Try.ntmps104
  go_wp2_with fail
  refine (has_any S l _ hS hl).mono ?_
  rintro e w' ⟨rfl, rfl⟩
  go_wp2_with fail
  refine (has_any S r _ hS hr).mono ?_
  rintro e w' ⟨rfl, rfl⟩
  go_wp2_with fail
  refine (has_any N self _ hN hs).mono ?_
  rintro e w' ⟨rfl, rfl⟩
  go_wp2_with fail
  go_ret
  exact ⟨ret_bool L.out.1, (Below.refl _ _).alloc (Nat.le_refl _) _⟩

set_option maxHeartbeats 400000 in
theorem law_113 (l r self letter S N : Nat) (w : World) (hl : l < 8) (hr : r < 8) (hs : self < 8) (hx : letter < 8) (hS : S < 256) (hN : N < 256) :
    Calls Try.prog 104 #[.agg #[.int .u8 (113 : Nat), .int .i64 l, .int .i64 r], .int .i64 self, .int .i64 letter, .int .i64 S, .int .i64 N] w fun e w' => e = .returned (.bool (lawB 113 letter (S.testBit l) (S.testBit r) (N.testBit self) (N.testBit l))) ∧ Below w.heap.size w w' := by
  have L := hid (let_fin ⟨letter, hx⟩)
  go_enter Try.func104, Try.ntmps104
  go_wp2_with fail
  refine (has_any S l _ hS hl).mono ?_
  rintro e w' ⟨rfl, rfl⟩
  go_wp2_with fail
  refine (has_any S r _ hS hr).mono ?_
  rintro e w' ⟨rfl, rfl⟩
  go_wp2_with fail
  refine (has_any N self _ hN hs).mono ?_
  rintro e w' ⟨rfl, rfl⟩
  go_wp2_with fail
  go_ret
  exact ⟨ret_bool L.out.2.1, (Below.refl _ _).alloc (Nat.le_refl _) _⟩

set_option maxHeartbeats 400000 in
theorem law_114 (l r self letter S N : Nat) (w : World) (hl : l < 8) (hr : r < 8) (hs : self < 8) (hx : letter < 8) (hS : S < 256) (hN : N < 256) :
    Calls Try.prog 104 #[.agg #[.int .u8 (114 : Nat), .int .i64 l, .int .i64 r], .int .i64 self, .int .i64 letter, .int .i64 S, .int .i64 N] w fun e w' => e = .returned (.bool (lawB 114 letter (S.testBit l) (S.testBit r) (N.testBit self) (N.testBit l))) ∧ Below w.heap.size w w' := by
  have L := hid (let_fin ⟨letter, hx⟩)
  go_enter Try.func104, Try.ntmps104
  go_wp2_with fail
  refine (has_any S l _ hS hl).mono ?_
  rintro e w' ⟨rfl, rfl⟩
  go_wp2_with fail
  refine (has_any S r _ hS hr).mono ?_
  rintro e w' ⟨rfl, rfl⟩
  go_wp2_with fail
  refine (has_any N self _ hN hs).mono ?_
  rintro e w' ⟨rfl, rfl⟩
  go_wp2_with fail
  go_ret
  exact ⟨ret_bool L.out.2.2, (Below.refl _ _).alloc (Nat.le_refl _) _⟩

set_option maxHeartbeats 400000 in
theorem law_33 (l r self letter S N : Nat) (w : World) (hl : l < 8) (hr : r < 8) (hs : self < 8) (hx : letter < 8) (hS : S < 256) (hN : N < 256) :
    Calls Try.prog 104 #[.agg #[.int .u8 (33 : Nat), .int .i64 l, .int .i64 r], .int .i64 self, .int .i64 letter, .int .i64 S, .int .i64 N] w fun e w' => e = .returned (.bool (lawB 33 letter (S.testBit l) (S.testBit r) (N.testBit self) (N.testBit l))) ∧ Below w.heap.size w w' := by
  have L := hid (let_fin ⟨letter, hx⟩)
  cases el : S.testBit l
  all_goals
    go_enter Try.func104, Try.ntmps104
    go_wp2_with fail
    refine (has_any S l _ hS hl).mono ?_
    rintro e w' ⟨rfl, rfl⟩
    go_wp2_with fail
    refine (has_any S r _ hS hr).mono ?_
    rintro e w' ⟨rfl, rfl⟩
    go_wp2_with fail
    refine (has_any N self _ hN hs).mono ?_
    rintro e w' ⟨rfl, rfl⟩
    go_wp2_with fail
    go_ret
    exact ⟨rfl, (Below.refl _ _).alloc (Nat.le_refl _) _⟩

set_option maxHeartbeats 400000 in
theorem law_88 (l r self letter S N : Nat) (w : World) (hl : l < 8) (hr : r < 8) (hs : self < 8) (hx : letter < 8) (hS : S < 256) (hN : N < 256) :
    Calls Try.prog 104 #[.agg #[.int .u8 (88 : Nat), .int .i64 l, .int .i64 r], .int .i64 self, .int .i64 letter, .int .i64 S, .int .i64 N] w fun e w' => e = .returned (.bool (lawB 88 letter (S.testBit l) (S.testBit r) (N.testBit self) (N.testBit l))) ∧ Below w.heap.size w w' := by
  have L := hid (let_fin ⟨letter, hx⟩)
  go_enter Try.func104, Try.ntmps104
  go_wp2_with fail
  refine (has_any S l _ hS hl).mono ?_
  rintro e w' ⟨rfl, rfl⟩
  go_wp2_with fail
  refine (has_any S r _ hS hr).mono ?_
  rintro e w' ⟨rfl, rfl⟩
  go_wp2_with fail
  refine (has_any N self _ hN hs).mono ?_
  rintro e w' ⟨rfl, rfl⟩
  go_wp2_with fail
  refine (has_any N l _ hN hl).mono ?_
  rintro e w' ⟨rfl, rfl⟩
  go_wp2_with fail
  go_ret
  exact ⟨rfl, (Below.refl _ _).alloc (Nat.le_refl _) _⟩

set_option maxHeartbeats 400000 in
theorem law_70 (l r self letter S N : Nat) (w : World) (hl : l < 8) (hr : r < 8) (hs : self < 8) (hx : letter < 8) (hS : S < 256) (hN : N < 256) :
    Calls Try.prog 104 #[.agg #[.int .u8 (70 : Nat), .int .i64 l, .int .i64 r], .int .i64 self, .int .i64 letter, .int .i64 S, .int .i64 N] w fun e w' => e = .returned (.bool (lawB 70 letter (S.testBit l) (S.testBit r) (N.testBit self) (N.testBit l))) ∧ Below w.heap.size w w' := by
  have L := hid (let_fin ⟨letter, hx⟩)
  cases el : S.testBit l
  all_goals cases et : N.testBit self
  all_goals
    go_enter Try.func104, Try.ntmps104
    go_wp2_with fail
    refine (has_any S l _ hS hl).mono ?_
    rintro e w' ⟨rfl, rfl⟩
    go_wp2_with fail
    refine (has_any S r _ hS hr).mono ?_
    rintro e w' ⟨rfl, rfl⟩
    go_wp2_with fail
    refine (has_any N self _ hN hs).mono ?_
    rintro e w' ⟨rfl, rfl⟩
    go_wp2_with fail
    go_ret
    exact ⟨rfl, (Below.refl _ _).alloc (Nat.le_refl _) _⟩

set_option maxHeartbeats 400000 in
theorem law_71 (l r self letter S N : Nat) (w : World) (hl : l < 8) (hr : r < 8) (hs : self < 8) (hx : letter < 8) (hS : S < 256) (hN : N < 256) :
    Calls Try.prog 104 #[.agg #[.int .u8 (71 : Nat), .int .i64 l, .int .i64 r], .int .i64 self, .int .i64 letter, .int .i64 S, .int .i64 N] w fun e w' => e = .returned (.bool (lawB 71 letter (S.testBit l) (S.testBit r) (N.testBit self) (N.testBit l))) ∧ Below w.heap.size w w' := by
  have L := hid (let_fin ⟨letter, hx⟩)
  cases el : S.testBit l
  all_goals cases et : N.testBit self
  all_goals
    go_enter Try.func104, Try.ntmps104
    go_wp2_with fail
    refine (has_any S l _ hS hl).mono ?_
    rintro e w' ⟨rfl, rfl⟩
    go_wp2_with fail
    refine (has_any S r _ hS hr).mono ?_
    rintro e w' ⟨rfl, rfl⟩
    go_wp2_with fail
    refine (has_any N self _ hN hs).mono ?_
    rintro e w' ⟨rfl, rfl⟩
    go_wp2_with fail
    go_ret
    exact ⟨rfl, (Below.refl _ _).alloc (Nat.le_refl _) _⟩

set_option maxHeartbeats 400000 in
theorem law_38 (l r self letter S N : Nat) (w : World) (hl : l < 8) (hr : r < 8) (hs : self < 8) (hx : letter < 8) (hS : S < 256) (hN : N < 256) :
    Calls Try.prog 104 #[.agg #[.int .u8 (38 : Nat), .int .i64 l, .int .i64 r], .int .i64 self, .int .i64 letter, .int .i64 S, .int .i64 N] w fun e w' => e = .returned (.bool (lawB 38 letter (S.testBit l) (S.testBit r) (N.testBit self) (N.testBit l))) ∧ Below w.heap.size w w' := by
  have L := hid (let_fin ⟨letter, hx⟩)
  cases el : S.testBit l
  all_goals cases er : S.testBit r
  all_goals
    go_enter Try.func104, Try.ntmps104
    go_wp2_with fail
    refine (has_any S l _ hS hl).mono ?_
    rintro e w' ⟨rfl, rfl⟩
    go_wp2_with fail
    refine (has_any S r _ hS hr).mono ?_
    rintro e w' ⟨rfl, rfl⟩
    go_wp2_with fail
    refine (has_any N self _ hN hs).mono ?_
    rintro e w' ⟨rfl, rfl⟩
    go_wp2_with fail
    go_ret
    exact ⟨rfl, (Below.refl _ _).alloc (Nat.le_refl _) _⟩

set_option maxHeartbeats 400000 in
theorem law_124 (l r self letter S N : Nat) (w : World) (hl : l < 8) (hr : r < 8) (hs : self < 8) (hx : letter < 8) (hS : S < 256) (hN : N < 256) :
    Calls Try.prog 104 #[.agg #[.int .u8 (124 : Nat), .int .i64 l, .int .i64 r], .int .i64 self, .int .i64 letter, .int .i64 S, .int .i64 N] w fun e w' => e = .returned (.bool (lawB 124 letter (S.testBit l) (S.testBit r) (N.testBit self) (N.testBit l))) ∧ Below w.heap.size w w' := by
  have L := hid (let_fin ⟨letter, hx⟩)
  cases el : S.testBit l
  all_goals cases er : S.testBit r
  all_goals
    go_enter Try.func104, Try.ntmps104
    go_wp2_with fail
    refine (has_any S l _ hS hl).mono ?_
    rintro e w' ⟨rfl, rfl⟩
    go_wp2_with fail
    refine (has_any S r _ hS hr).mono ?_
    rintro e w' ⟨rfl, rfl⟩
    go_wp2_with fail
    refine (has_any N self _ hN hs).mono ?_
    rintro e w' ⟨rfl, rfl⟩
    go_wp2_with fail
    go_ret
    exact ⟨rfl, (Below.refl _ _).alloc (Nat.le_refl _) _⟩

set_option maxHeartbeats 400000 in
theorem law_85 (l r self letter S N : Nat) (w : World) (hl : l < 8) (hr : r < 8) (hs : self < 8) (hx : letter < 8) (hS : S < 256) (hN : N < 256) :
    Calls Try.prog 104 #[.agg #[.int .u8 (85 : Nat), .int .i64 l, .int .i64 r], .int .i64 self, .int .i64 letter, .int .i64 S, .int .i64 N] w fun e w' => e = .returned (.bool (lawB 85 letter (S.testBit l) (S.testBit r) (N.testBit self) (N.testBit l))) ∧ Below w.heap.size w w' := by
  have L := hid (let_fin ⟨letter, hx⟩)
  cases el : S.testBit l
  all_goals cases er : S.testBit r
  all_goals cases et : N.testBit self
  all_goals
    go_enter Try.func104, Try.ntmps104
    go_wp2_with fail
    refine (has_any S l _ hS hl).mono ?_
    rintro e w' ⟨rfl, rfl⟩
    go_wp2_with fail
    refine (has_any S r _ hS hr).mono ?_
    rintro e w' ⟨rfl, rfl⟩
    go_wp2_with fail
    refine (has_any N self _ hN hs).mono ?_
    rintro e w' ⟨rfl, rfl⟩
    go_wp2_with fail
    go_ret
    exact ⟨rfl, (Below.refl _ _).alloc (Nat.le_refl _) _⟩

set_option maxHeartbeats 400000 in
theorem law_82 (l r self letter S N : Nat) (w : World) (hl : l < 8) (hr : r < 8) (hs : self < 8) (hx : letter < 8) (hS : S < 256) (hN : N < 256) :
    Calls Try.prog 104 #[.agg #[.int .u8 (82 : Nat), .int .i64 l, .int .i64 r], .int .i64 self, .int .i64 letter, .int .i64 S, .int .i64 N] w fun e w' => e = .returned (.bool (lawB 82 letter (S.testBit l) (S.testBit r) (N.testBit self) (N.testBit l))) ∧ Below w.heap.size w w' := by
  have L := hid (let_fin ⟨letter, hx⟩)
  cases el : S.testBit l
  all_goals cases er : S.testBit r
  all_goals cases et : N.testBit self
  all_goals
    go_enter Try.func104, Try.ntmps104
    go_wp2_with fail
    refine (has_any S l _ hS hl).mono ?_
    rintro e w' ⟨rfl, rfl⟩
    go_wp2_with fail
    refine (has_any S r _ hS hr).mono ?_
    rintro e w' ⟨rfl, rfl⟩
    go_wp2_with fail
    refine (has_any N self _ hN hs).mono ?_
    rintro e w' ⟨rfl, rfl⟩
    go_wp2_with fail
    go_ret
    exact ⟨rfl, (Below.refl _ _).alloc (Nat.le_refl _) _⟩

set_option maxHeartbeats 400000 in
theorem law_other (op : Nat) (l r self letter S N : Nat) (w : World) (hl : l < 8) (hr : r < 8) (hs : self < 8) (hx : letter < 8) (hS : S < 256) (hN : N < 256) (hop : ∀ k ∈ [49, 112, 113, 114, 33, 88, 70, 71, 38, 124, 85, 82], op ≠ k) :
    Calls Try.prog 104 #[.agg #[.int .u8 (op : Nat), .int .i64 l, .int .i64 r], .int .i64 self, .int .i64 letter, .int .i64 S, .int .i64 N] w fun e w' => e = .returned (.bool (lawB op letter (S.testBit l) (S.testBit r) (N.testBit self) (N.testBit l))) ∧ Below w.heap.size w w' := by
  have k49 : ((op : Int) == 49) = false := beq_eq_false_iff_ne.2 (by have := hop 49 (by simp); omega)
  have k112 : ((op : Int) == 112) = false := beq_eq_false_iff_ne.2 (by have := hop 112 (by simp); omega)
  have k113 : ((op : Int) == 113) = false := beq_eq_false_iff_ne.2 (by have := hop 113 (by simp); omega)
  have k114 : ((op : Int) == 114) = false := beq_eq_false_iff_ne.2 (by have := hop 114 (by simp); omega)
  have k33 : ((op : Int) == 33) = false := beq_eq_false_iff_ne.2 (by have := hop 33 (by simp); omega)
  have k88 : ((op : Int) == 88) = false := beq_eq_false_iff_ne.2 (by have := hop 88 (by simp); omega)
  have k70 : ((op : Int) == 70) = false := beq_eq_false_iff_ne.2 (by have := hop 70 (by simp); omega)
  have k71 : ((op : Int) == 71) = false := beq_eq_false_iff_ne.2 (by have := hop 71 (by simp); omega)
  have k38 : ((op : Int) == 38) = false := beq_eq_false_iff_ne.2 (by have := hop 38 (by simp); omega)
  have k124 : ((op : Int) == 124) = false := beq_eq_false_iff_ne.2 (by have := hop 124 (by simp); omega)
  have k85 : ((op : Int) == 85) = false := beq_eq_false_iff_ne.2 (by have := hop 85 (by simp); omega)
  have k82 : ((op : Int) == 82) = false := beq_eq_false_iff_ne.2 (by have := hop 82 (by simp); omega)
  have E : Hid (lawB op letter (S.testBit l) (S.testBit r) (N.testBit self) (N.testBit l) = false) := hid (by unfold lawB; rw [if_neg (hop 49 (by simp))]; rw [if_neg (hop 112 (by simp))]; rw [if_neg (hop 113 (by simp))]; rw [if_neg (hop 114 (by simp))]; rw [if_neg (hop 33 (by simp))]; rw [if_neg (hop 88 (by simp))]; rw [if_neg (hop 70 (by simp))]; rw [if_neg (hop 71 (by simp))]; rw [if_neg (hop 38 (by simp))]; rw [if_neg (hop 124 (by simp))]; rw [if_neg (hop 85 (by simp))]; rw [if_neg (hop 82 (by simp))])
  clear hop
  go_enter Try.func104, Try.ntmps104
  go_wp2_with fail
  refine (has_any S l _ hS hl).mono ?_
  rintro e w' ⟨rfl, rfl⟩
  go_wp2_with fail
  refine (has_any S r _ hS hr).mono ?_
  rintro e w' ⟨rfl, rfl⟩
  go_wp2_with fail
  refine (has_any N self _ hN hs).mono ?_
  rintro e w' ⟨rfl, rfl⟩
  go_wp2_with fail
  go_ret
  exact ⟨by rw [E.out]; rfl, (Below.refl _ _).alloc (Nat.le_refl _) _⟩

theorem law_any (n : Nd) (self letter S N : Nat) (w : World) (hl : n.l < 8) (hr : n.r < 8) (hs : self < 8) (hx : letter < 8) (hS : S < 256) (hN : N < 256) :
    Calls Try.prog 104 #[ndV n, .int .i64 self, .int .i64 letter, .int .i64 S, .int .i64 N] w fun e w' => e = .returned (.bool (lawB n.op letter (S.testBit n.l) (S.testBit n.r) (N.testBit self) (N.testBit n.l))) ∧ Below w.heap.size w w' := by
  obtain ⟨op, l, r⟩ := n
  unfold ndV
  dsimp only at *
  by_cases h49 : op = 49
  · subst h49; exact law_49 l r self letter S N w hl hr hs hx hS hN
  by_cases h112 : op = 112
  · subst h112; exact law_112 l r self letter S N w hl hr hs hx hS hN
  by_cases h113 : op = 113
  · subst h113; exact law_113 l r self letter S N w hl hr hs hx hS hN
  by_cases h114 : op = 114
  · subst h114; exact law_114 l r self letter S N w hl hr hs hx hS hN
  by_cases h33 : op = 33
  · subst h33; exact law_33 l r self letter S N w hl hr hs hx hS hN
  by_cases h88 : op = 88
  · subst h88; exact law_88 l r self letter S N w hl hr hs hx hS hN
  by_cases h70 : op = 70
  · subst h70; exact law_70 l r self letter S N w hl hr hs hx hS hN
  by_cases h71 : op = 71
  · subst h71; exact law_71 l r self letter S N w hl hr hs hx hS hN
  by_cases h38 : op = 38
  · subst h38; exact law_38 l r self letter S N w hl hr hs hx hS hN
  by_cases h124 : op = 124
  · subst h124; exact law_124 l r self letter S N w hl hr hs hx hS hN
  by_cases h85 : op = 85
  · subst h85; exact law_85 l r self letter S N w hl hr hs hx hS hN
  by_cases h82 : op = 82
  · subst h82; exact law_82 l r self letter S N w hl hr hs hx hS hN
  exact law_other op l r self letter S N w hl hr hs hx hS hN (by intro k hk; simp at hk; omega)

/-- Whether a node holds where its law is put off for ever. -/
def lastsB (op : Nat) : Bool := op == 71 || op == 82

set_option maxHeartbeats 400000 in
theorem lasts_any (n : Nd) (w : World) : Calls Try.prog 106 #[ndV n] w fun e w' => e = .returned (.bool (lastsB n.op)) ∧ Below w.heap.size w w' := by
  obtain ⟨op, l, r⟩ := n
  unfold ndV
  dsimp only at *
  by_cases h1 : op = 71
  · subst h1
    go_enter Try.func106, Try.ntmps106
    go_wp2
    go_ret
    exact ⟨rfl, (Below.refl _ _).alloc (Nat.le_refl _) _⟩
  by_cases h2 : op = 82
  · subst h2
    go_enter Try.func106, Try.ntmps106
    go_wp2
    go_ret
    exact ⟨rfl, (Below.refl _ _).alloc (Nat.le_refl _) _⟩
  have k1 : ((op : Int) == 71) = false := beq_eq_false_iff_ne.2 (by omega)
  have k2 : ((op : Int) == 82) = false := beq_eq_false_iff_ne.2 (by omega)
  have E : Hid (lastsB op = false) := hid (by simp [lastsB, h1, h2])
  go_enter Try.func106, Try.ntmps106
  go_wp2
  go_ret
  exact ⟨by rw [E.out]; rfl, (Below.refl _ _).alloc (Nat.le_refl _) _⟩

end Go.Proofs.Ytjagijohfkffiab
