import Derived.Test.YtjagijohfkffiabGreatALLM01
import Derived.Test.YtjagijohfkffiabGreatALLM05
set_option maxHeartbeats 16000000
set_option maxRecDepth 100000
namespace Go.Proofs.YtjagijohfkffiabGreat
open Go.RowKit
set_option linter.unusedVariables false
def aK (op letter:Nat) (l r later nl:Bool):Bool:=
 if op=49 then true else if op=112 then letter.testBit 0 else if op=113 then letter.testBit 1 else if op=114 then letter.testBit 2 else
 if op=33 then !l else if op=88 then nl else if op=70 then l||later else if op=71 then l&&later else if op=38 then l&&r else if op=124 then l||r else
 if op=85 then r||(l&&later) else if op=82 then r&&(l||later) else false
theorem kU:∀ x:Fin 8,(bits BinOp.and IntKind.i64 (x.val:Int) 1!=0)=x.val.testBit 0∧(bits BinOp.and IntKind.i64 (x.val:Int) 2!=0)=x.val.testBit 1∧(bits BinOp.and IntKind.i64 (x.val:Int) 4!=0)=x.val.testBit 2:=by decide +kernel
def uG (n:Nd):Value:=.agg #[.int .u8 n.op,.int .i64 n.l,.int .i64 n.r]
theorem aen (l r self letter S N:Nat) (w:World) (hl:l<8) (hr:r<8) (hs:self<8) (hx:letter<8) (hS:S<256) (hN:N<256) :
  Calls Tryz.prog 114 #[.agg #[.int .u8 (49:Nat),.int .i64 l,.int .i64 r],.int .i64 self,.int .i64 letter,.int .i64 S,.int .i64 N] w fun e w'=>e=.returned (.bool (aK 49 letter (S.testBit l) (S.testBit r) (N.testBit self) (N.testBit l)))∧Below w.heap.size w w':=by
 have L:=hid (kU ⟨letter,hx⟩)
 go_enter Tryz.func114,Tryz.ntmps114
 go_wp2_with fail
 refine (aX S l _ hS hl).mono ?_
 rintro e w' ⟨rfl,rfl⟩
 go_wp2_with fail
 refine (aX S r _ hS hr).mono ?_
 rintro e w' ⟨rfl,rfl⟩
 go_wp2_with fail
 refine (aX N self _ hN hs).mono ?_
 rintro e w' ⟨rfl,rfl⟩
 go_wp2_with fail
 go_ret
 exact ⟨rfl,(Below.refl _ _).alloc (Nat.le_refl _) _⟩
theorem ac2 (l r self letter S N:Nat) (w:World) (hl:l<8) (hr:r<8) (hs:self<8) (hx:letter<8) (hS:S<256) (hN:N<256) :
  Calls Tryz.prog 114 #[.agg #[.int .u8 (112:Nat),.int .i64 l,.int .i64 r],.int .i64 self,.int .i64 letter,.int .i64 S,.int .i64 N] w fun e w'=>e=.returned (.bool (aK 112 letter (S.testBit l) (S.testBit r) (N.testBit self) (N.testBit l)))∧Below w.heap.size w w':=by
 have L:=hid (kU ⟨letter,hx⟩)
 go_enter Tryz.func114,Tryz.ntmps114
 go_wp2_with fail
 refine (aX S l _ hS hl).mono ?_
 rintro e w' ⟨rfl,rfl⟩
 go_wp2_with fail
 refine (aX S r _ hS hr).mono ?_
 rintro e w' ⟨rfl,rfl⟩
 go_wp2_with fail
 refine (aX N self _ hN hs).mono ?_
 rintro e w' ⟨rfl,rfl⟩
 go_wp2_with fail
 go_ret
 exact ⟨qb L.out.1,(Below.refl _ _).alloc (Nat.le_refl _) _⟩
theorem ac1 (l r self letter S N:Nat) (w:World) (hl:l<8) (hr:r<8) (hs:self<8) (hx:letter<8) (hS:S<256) (hN:N<256) :
  Calls Tryz.prog 114 #[.agg #[.int .u8 (113:Nat),.int .i64 l,.int .i64 r],.int .i64 self,.int .i64 letter,.int .i64 S,.int .i64 N] w fun e w'=>e=.returned (.bool (aK 113 letter (S.testBit l) (S.testBit r) (N.testBit self) (N.testBit l)))∧Below w.heap.size w w':=by
 have L:=hid (kU ⟨letter,hx⟩)
 go_enter Tryz.func114,Tryz.ntmps114
 go_wp2_with fail
 refine (aX S l _ hS hl).mono ?_
 rintro e w' ⟨rfl,rfl⟩
 go_wp2_with fail
 refine (aX S r _ hS hr).mono ?_
 rintro e w' ⟨rfl,rfl⟩
 go_wp2_with fail
 refine (aX N self _ hN hs).mono ?_
 rintro e w' ⟨rfl,rfl⟩
 go_wp2_with fail
 go_ret
 exact ⟨qb L.out.2.1,(Below.refl _ _).alloc (Nat.le_refl _) _⟩
theorem ac0 (l r self letter S N:Nat) (w:World) (hl:l<8) (hr:r<8) (hs:self<8) (hx:letter<8) (hS:S<256) (hN:N<256) :
  Calls Tryz.prog 114 #[.agg #[.int .u8 (114:Nat),.int .i64 l,.int .i64 r],.int .i64 self,.int .i64 letter,.int .i64 S,.int .i64 N] w fun e w'=>e=.returned (.bool (aK 114 letter (S.testBit l) (S.testBit r) (N.testBit self) (N.testBit l)))∧Below w.heap.size w w':=by
 have L:=hid (kU ⟨letter,hx⟩)
 go_enter Tryz.func114,Tryz.ntmps114
 go_wp2_with fail
 refine (aX S l _ hS hl).mono ?_
 rintro e w' ⟨rfl,rfl⟩
 go_wp2_with fail
 refine (aX S r _ hS hr).mono ?_
 rintro e w' ⟨rfl,rfl⟩
 go_wp2_with fail
 refine (aX N self _ hN hs).mono ?_
 rintro e w' ⟨rfl,rfl⟩
 go_wp2_with fail
 go_ret
 exact ⟨qb L.out.2.2,(Below.refl _ _).alloc (Nat.le_refl _) _⟩
theorem aep (l r self letter S N:Nat) (w:World) (hl:l<8) (hr:r<8) (hs:self<8) (hx:letter<8) (hS:S<256) (hN:N<256) :
  Calls Tryz.prog 114 #[.agg #[.int .u8 (33:Nat),.int .i64 l,.int .i64 r],.int .i64 self,.int .i64 letter,.int .i64 S,.int .i64 N] w fun e w'=>e=.returned (.bool (aK 33 letter (S.testBit l) (S.testBit r) (N.testBit self) (N.testBit l)))∧Below w.heap.size w w':=by
 have L:=hid (kU ⟨letter,hx⟩)
 cases el:S.testBit l
 all_goals
  go_enter Tryz.func114,Tryz.ntmps114
  go_wp2_with fail
  refine (aX S l _ hS hl).mono ?_
  rintro e w' ⟨rfl,rfl⟩
  go_wp2_with fail
  refine (aX S r _ hS hr).mono ?_
  rintro e w' ⟨rfl,rfl⟩
  go_wp2_with fail
  refine (aX N self _ hN hs).mono ?_
  rintro e w' ⟨rfl,rfl⟩
  go_wp2_with fail
  go_ret
  exact ⟨rfl,(Below.refl _ _).alloc (Nat.le_refl _) _⟩
theorem aei (l r self letter S N:Nat) (w:World) (hl:l<8) (hr:r<8) (hs:self<8) (hx:letter<8) (hS:S<256) (hN:N<256) :
  Calls Tryz.prog 114 #[.agg #[.int .u8 (88:Nat),.int .i64 l,.int .i64 r],.int .i64 self,.int .i64 letter,.int .i64 S,.int .i64 N] w fun e w'=>e=.returned (.bool (aK 88 letter (S.testBit l) (S.testBit r) (N.testBit self) (N.testBit l)))∧Below w.heap.size w w':=by
 have L:=hid (kU ⟨letter,hx⟩)
 go_enter Tryz.func114,Tryz.ntmps114
 go_wp2_with fail
 refine (aX S l _ hS hl).mono ?_
 rintro e w' ⟨rfl,rfl⟩
 go_wp2_with fail
 refine (aX S r _ hS hr).mono ?_
 rintro e w' ⟨rfl,rfl⟩
 go_wp2_with fail
 refine (aX N self _ hN hs).mono ?_
 rintro e w' ⟨rfl,rfl⟩
 go_wp2_with fail
 refine (aX N l _ hN hl).mono ?_
 rintro e w' ⟨rfl,rfl⟩
 go_wp2_with fail
 go_ret
 exact ⟨rfl,(Below.refl _ _).alloc (Nat.le_refl _) _⟩
theorem aem (l r self letter S N:Nat) (w:World) (hl:l<8) (hr:r<8) (hs:self<8) (hx:letter<8) (hS:S<256) (hN:N<256) :
  Calls Tryz.prog 114 #[.agg #[.int .u8 (70:Nat),.int .i64 l,.int .i64 r],.int .i64 self,.int .i64 letter,.int .i64 S,.int .i64 N] w fun e w'=>e=.returned (.bool (aK 70 letter (S.testBit l) (S.testBit r) (N.testBit self) (N.testBit l)))∧Below w.heap.size w w':=by
 have L:=hid (kU ⟨letter,hx⟩)
 cases el:S.testBit l
 all_goals cases et:N.testBit self
 all_goals
  go_enter Tryz.func114,Tryz.ntmps114
  go_wp2_with fail
  refine (aX S l _ hS hl).mono ?_
  rintro e w' ⟨rfl,rfl⟩
  go_wp2_with fail
  refine (aX S r _ hS hr).mono ?_
  rintro e w' ⟨rfl,rfl⟩
  go_wp2_with fail
  refine (aX N self _ hN hs).mono ?_
  rintro e w' ⟨rfl,rfl⟩
  go_wp2_with fail
  go_ret
  exact ⟨rfl,(Below.refl _ _).alloc (Nat.le_refl _) _⟩
theorem ael (l r self letter S N:Nat) (w:World) (hl:l<8) (hr:r<8) (hs:self<8) (hx:letter<8) (hS:S<256) (hN:N<256) :
  Calls Tryz.prog 114 #[.agg #[.int .u8 (71:Nat),.int .i64 l,.int .i64 r],.int .i64 self,.int .i64 letter,.int .i64 S,.int .i64 N] w fun e w'=>e=.returned (.bool (aK 71 letter (S.testBit l) (S.testBit r) (N.testBit self) (N.testBit l)))∧Below w.heap.size w w':=by
 have L:=hid (kU ⟨letter,hx⟩)
 cases el:S.testBit l
 all_goals cases et:N.testBit self
 all_goals
  go_enter Tryz.func114,Tryz.ntmps114
  go_wp2_with fail
  refine (aX S l _ hS hl).mono ?_
  rintro e w' ⟨rfl,rfl⟩
  go_wp2_with fail
  refine (aX S r _ hS hr).mono ?_
  rintro e w' ⟨rfl,rfl⟩
  go_wp2_with fail
  refine (aX N self _ hN hs).mono ?_
  rintro e w' ⟨rfl,rfl⟩
  go_wp2_with fail
  go_ret
  exact ⟨rfl,(Below.refl _ _).alloc (Nat.le_refl _) _⟩
theorem aeo (l r self letter S N:Nat) (w:World) (hl:l<8) (hr:r<8) (hs:self<8) (hx:letter<8) (hS:S<256) (hN:N<256) :
  Calls Tryz.prog 114 #[.agg #[.int .u8 (38:Nat),.int .i64 l,.int .i64 r],.int .i64 self,.int .i64 letter,.int .i64 S,.int .i64 N] w fun e w'=>e=.returned (.bool (aK 38 letter (S.testBit l) (S.testBit r) (N.testBit self) (N.testBit l)))∧Below w.heap.size w w':=by
 have L:=hid (kU ⟨letter,hx⟩)
 cases el:S.testBit l
 all_goals cases er:S.testBit r
 all_goals
  go_enter Tryz.func114,Tryz.ntmps114
  go_wp2_with fail
  refine (aX S l _ hS hl).mono ?_
  rintro e w' ⟨rfl,rfl⟩
  go_wp2_with fail
  refine (aX S r _ hS hr).mono ?_
  rintro e w' ⟨rfl,rfl⟩
  go_wp2_with fail
  refine (aX N self _ hN hs).mono ?_
  rintro e w' ⟨rfl,rfl⟩
  go_wp2_with fail
  go_ret
  exact ⟨rfl,(Below.refl _ _).alloc (Nat.le_refl _) _⟩
theorem acZ (l r self letter S N:Nat) (w:World) (hl:l<8) (hr:r<8) (hs:self<8) (hx:letter<8) (hS:S<256) (hN:N<256) :
  Calls Tryz.prog 114 #[.agg #[.int .u8 (124:Nat),.int .i64 l,.int .i64 r],.int .i64 self,.int .i64 letter,.int .i64 S,.int .i64 N] w fun e w'=>e=.returned (.bool (aK 124 letter (S.testBit l) (S.testBit r) (N.testBit self) (N.testBit l)))∧Below w.heap.size w w':=by
 have L:=hid (kU ⟨letter,hx⟩)
 cases el:S.testBit l
 all_goals cases er:S.testBit r
 all_goals
  go_enter Tryz.func114,Tryz.ntmps114
  go_wp2_with fail
  refine (aX S l _ hS hl).mono ?_
  rintro e w' ⟨rfl,rfl⟩
  go_wp2_with fail
  refine (aX S r _ hS hr).mono ?_
  rintro e w' ⟨rfl,rfl⟩
  go_wp2_with fail
  refine (aX N self _ hN hs).mono ?_
  rintro e w' ⟨rfl,rfl⟩
  go_wp2_with fail
  go_ret
  exact ⟨rfl,(Below.refl _ _).alloc (Nat.le_refl _) _⟩
theorem aej (l r self letter S N:Nat) (w:World) (hl:l<8) (hr:r<8) (hs:self<8) (hx:letter<8) (hS:S<256) (hN:N<256) :
  Calls Tryz.prog 114 #[.agg #[.int .u8 (85:Nat),.int .i64 l,.int .i64 r],.int .i64 self,.int .i64 letter,.int .i64 S,.int .i64 N] w fun e w'=>e=.returned (.bool (aK 85 letter (S.testBit l) (S.testBit r) (N.testBit self) (N.testBit l)))∧Below w.heap.size w w':=by
 have L:=hid (kU ⟨letter,hx⟩)
 cases el:S.testBit l
 all_goals cases er:S.testBit r
 all_goals cases et:N.testBit self
 all_goals
  go_enter Tryz.func114,Tryz.ntmps114
  go_wp2_with fail
  refine (aX S l _ hS hl).mono ?_
  rintro e w' ⟨rfl,rfl⟩
  go_wp2_with fail
  refine (aX S r _ hS hr).mono ?_
  rintro e w' ⟨rfl,rfl⟩
  go_wp2_with fail
  refine (aX N self _ hN hs).mono ?_
  rintro e w' ⟨rfl,rfl⟩
  go_wp2_with fail
  go_ret
  exact ⟨rfl,(Below.refl _ _).alloc (Nat.le_refl _) _⟩
theorem aek (l r self letter S N:Nat) (w:World) (hl:l<8) (hr:r<8) (hs:self<8) (hx:letter<8) (hS:S<256) (hN:N<256) :
  Calls Tryz.prog 114 #[.agg #[.int .u8 (82:Nat),.int .i64 l,.int .i64 r],.int .i64 self,.int .i64 letter,.int .i64 S,.int .i64 N] w fun e w'=>e=.returned (.bool (aK 82 letter (S.testBit l) (S.testBit r) (N.testBit self) (N.testBit l)))∧Below w.heap.size w w':=by
 have L:=hid (kU ⟨letter,hx⟩)
 cases el:S.testBit l
 all_goals cases er:S.testBit r
 all_goals cases et:N.testBit self
 all_goals
  go_enter Tryz.func114,Tryz.ntmps114
  go_wp2_with fail
  refine (aX S l _ hS hl).mono ?_
  rintro e w' ⟨rfl,rfl⟩
  go_wp2_with fail
  refine (aX S r _ hS hr).mono ?_
  rintro e w' ⟨rfl,rfl⟩
  go_wp2_with fail
  refine (aX N self _ hN hs).mono ?_
  rintro e w' ⟨rfl,rfl⟩
  go_wp2_with fail
  go_ret
  exact ⟨rfl,(Below.refl _ _).alloc (Nat.le_refl _) _⟩
theorem Wq (op:Nat) (l r self letter S N:Nat) (w:World) (hl:l<8) (hr:r<8) (hs:self<8) (hx:letter<8) (hS:S<256) (hN:N<256) (hop:∀ k∈[49,112,113,114,33,88,70,71,38,124,85,82],op≠k) :
  Calls Tryz.prog 114 #[.agg #[.int .u8 (op:Nat),.int .i64 l,.int .i64 r],.int .i64 self,.int .i64 letter,.int .i64 S,.int .i64 N] w fun e w'=>e=.returned (.bool (aK op letter (S.testBit l) (S.testBit r) (N.testBit self) (N.testBit l)))∧Below w.heap.size w w':=by
 have k49:((op:Int)==49)=false:=beq_eq_false_iff_ne.2 (by have:=hop 49 (by simp);omega)
 have aes:((op:Int)==112)=false:=beq_eq_false_iff_ne.2 (by have:=hop 112 (by simp);omega)
 have aer:((op:Int)==113)=false:=beq_eq_false_iff_ne.2 (by have:=hop 113 (by simp);omega)
 have aeq:((op:Int)==114)=false:=beq_eq_false_iff_ne.2 (by have:=hop 114 (by simp);omega)
 have k33:((op:Int)==33)=false:=beq_eq_false_iff_ne.2 (by have:=hop 33 (by simp);omega)
 have k88:((op:Int)==88)=false:=beq_eq_false_iff_ne.2 (by have:=hop 88 (by simp);omega)
 have k70:((op:Int)==70)=false:=beq_eq_false_iff_ne.2 (by have:=hop 70 (by simp);omega)
 have k71:((op:Int)==71)=false:=beq_eq_false_iff_ne.2 (by have:=hop 71 (by simp);omega)
 have k38:((op:Int)==38)=false:=beq_eq_false_iff_ne.2 (by have:=hop 38 (by simp);omega)
 have aiO:((op:Int)==124)=false:=beq_eq_false_iff_ne.2 (by have:=hop 124 (by simp);omega)
 have k85:((op:Int)==85)=false:=beq_eq_false_iff_ne.2 (by have:=hop 85 (by simp);omega)
 have k82:((op:Int)==82)=false:=beq_eq_false_iff_ne.2 (by have:=hop 82 (by simp);omega)
 have E:Hid (aK op letter (S.testBit l) (S.testBit r) (N.testBit self) (N.testBit l)=false):=hid (by unfold aK;rw [if_neg (hop 49 (by simp))];rw [if_neg (hop 112 (by simp))];rw [if_neg (hop 113 (by simp))];rw [if_neg (hop 114 (by simp))];rw [if_neg (hop 33 (by simp))];rw [if_neg (hop 88 (by simp))];rw [if_neg (hop 70 (by simp))];rw [if_neg (hop 71 (by simp))];rw [if_neg (hop 38 (by simp))];rw [if_neg (hop 124 (by simp))];rw [if_neg (hop 85 (by simp))];rw [if_neg (hop 82 (by simp))])
 clear hop
 go_enter Tryz.func114,Tryz.ntmps114
 go_wp2_with fail
 refine (aX S l _ hS hl).mono ?_
 rintro e w' ⟨rfl,rfl⟩
 go_wp2_with fail
 refine (aX S r _ hS hr).mono ?_
 rintro e w' ⟨rfl,rfl⟩
 go_wp2_with fail
 refine (aX N self _ hN hs).mono ?_
 rintro e w' ⟨rfl,rfl⟩
 go_wp2_with fail
 go_ret
 exact ⟨by rw [E.out];rfl,(Below.refl _ _).alloc (Nat.le_refl _) _⟩
theorem QS (n:Nd) (self letter S N:Nat) (w:World) (hl:n.l<8) (hr:n.r<8) (hs:self<8) (hx:letter<8) (hS:S<256) (hN:N<256) :
  Calls Tryz.prog 114 #[uG n,.int .i64 self,.int .i64 letter,.int .i64 S,.int .i64 N] w fun e w'=>e=.returned (.bool (aK n.op letter (S.testBit n.l) (S.testBit n.r) (N.testBit self) (N.testBit n.l)))∧Below w.heap.size w w':=by
 obtain ⟨op,l,r⟩:=n
 unfold uG
 dsimp only at *
 by_cases h49:op=49
 ·subst h49;exact aen l r self letter S N w hl hr hs hx hS hN
 by_cases h112:op=112
 ·subst h112;exact ac2 l r self letter S N w hl hr hs hx hS hN
 by_cases h113:op=113
 ·subst h113;exact ac1 l r self letter S N w hl hr hs hx hS hN
 by_cases h114:op=114
 ·subst h114;exact ac0 l r self letter S N w hl hr hs hx hS hN
 by_cases h33:op=33
 ·subst h33;exact aep l r self letter S N w hl hr hs hx hS hN
 by_cases h88:op=88
 ·subst h88;exact aei l r self letter S N w hl hr hs hx hS hN
 by_cases h70:op=70
 ·subst h70;exact aem l r self letter S N w hl hr hs hx hS hN
 by_cases h71:op=71
 ·subst h71;exact ael l r self letter S N w hl hr hs hx hS hN
 by_cases h38:op=38
 ·subst h38;exact aeo l r self letter S N w hl hr hs hx hS hN
 by_cases h124:op=124
 ·subst h124;exact acZ l r self letter S N w hl hr hs hx hS hN
 by_cases h85:op=85
 ·subst h85;exact aej l r self letter S N w hl hr hs hx hS hN
 by_cases h82:op=82
 ·subst h82;exact aek l r self letter S N w hl hr hs hx hS hN
 exact Wq op l r self letter S N w hl hr hs hx hS hN (by intro k hk;simp at hk;omega)
def jM (op:Nat):Bool:=op==71||op==82
theorem JV (n:Nd) (w:World):Calls Tryz.prog 116 #[uG n] w fun e w'=>e=.returned (.bool (jM n.op))∧Below w.heap.size w w':=by
 obtain ⟨op,l,r⟩:=n
 unfold uG
 dsimp only at *
 by_cases h1:op=71
 ·subst h1
  go_enter Tryz.func116,Tryz.ntmps116
  go_wp2
  go_ret
  exact ⟨rfl,(Below.refl _ _).alloc (Nat.le_refl _) _⟩
 by_cases h2:op=82
 ·subst h2
  go_enter Tryz.func116,Tryz.ntmps116
  go_wp2
  go_ret
  exact ⟨rfl,(Below.refl _ _).alloc (Nat.le_refl _) _⟩
 have k1:((op:Int)==71)=false:=beq_eq_false_iff_ne.2 (by omega)
 have k2:((op:Int)==82)=false:=beq_eq_false_iff_ne.2 (by omega)
 have E:Hid (jM op=false):=hid (by simp [jM,h1,h2])
 go_enter Tryz.func116,Tryz.ntmps116
 go_wp2
 go_ret
 exact ⟨by rw [E.out];rfl,(Below.refl _ _).alloc (Nat.le_refl _) _⟩
def ax (ps:List (Nat × Nat)) (i:Nat):Nat:=(ps.getD i (0,0)).2
def bN (ps:List (Nat × Nat)) (i:Nat):Nat:=(ps.getD i (0,0)).1
def qA (n:Nd) (k:Nat) (p:Nat × Nat) (N:Nat):Nat:=qR p.2 k (aK n.op p.1 (p.2.testBit n.l) (p.2.testBit n.r) (N.testBit k) (N.testBit n.l))
def aU (n:Nd) (k:Nat) (N:Nat):List (Nat × Nat)→List (Nat × Nat) × Nat
 | []=>([],N)
 | p::ps=>((p.1,qA n k p (aU n k N ps).2)::(aU n k N ps).1,qA n k p (aU n k N ps).2)
def bH (n:Nd) (k:Nat) (ps:List (Nat × Nat)):List (Nat × Nat):=ps.map fun p=>(p.1,qR p.2 k (jM n.op))
def pY (n:Nd) (k back:Nat) (ps:List (Nat × Nat)):List (Nat × Nat):=
 (aU n k (ax (aU n k (ax (bH n k ps) back) (bH n k ps)).1 back) (aU n k (ax (bH n k ps) back) (bH n k ps)).1).1
theorem ma (n:Nd) (k N:Nat) (ps:List (Nat × Nat)):(aU n k N ps).1.length=ps.length:=by
 induction ps with
 | nil=>rfl
 | cons p ps ih=>simp [aU,ih]
theorem ji (n:Nd) (k:Nat) (ps:List (Nat × Nat)):(bH n k ps).length=ps.length:=by simp [bH]
theorem Kl (n:Nd) (k back:Nat) (ps:List (Nat × Nat)):(pY n k back ps).length=ps.length:=by
 unfold pY;rw [ma,ma,ji]
theorem pI (p:Nat × Nat) (ps:List (Nat × Nat)) (i:Nat):ax (p::ps) (i+1)=ax ps i:=by simp [ax]
theorem uV (p:Nat × Nat) (ps:List (Nat × Nat)) (i:Nat):bN (p::ps) (i+1)=bN ps i:=by simp [bN]
theorem Di (n:Nd) (k N:Nat) (ps:List (Nat × Nat)):(aU n k N ps).2=if 0<ps.length then ax (aU n k N ps).1 0 else N:=by
 cases ps with
 | nil=>rfl
 | cons p ps=>simp [aU,ax]
theorem uR (n:Nd) (k N:Nat) (ps:List (Nat × Nat)) (i:Nat):bN (aU n k N ps).1 i=bN ps i:=by
 induction ps generalizing i with
 | nil=>rfl
 | cons p ps ih=>
  cases i with
  | zero=>simp [aU,bN]
  | succ i=>simp only [aU];rw [uV,uV];exact ih i
theorem xV (n:Nd) (k N:Nat) (ps:List (Nat × Nat)) (i:Nat) (hi:i<ps.length) :
  ax (aU n k N ps).1 i=qA n k (bN ps i,ax ps i) (if i+1<ps.length then ax (aU n k N ps).1 (i+1) else N):=by
 induction ps generalizing i with
 | nil=>simp at hi
 | cons p ps ih=>
  cases i with
  | zero=>
   have e:=Di n k N ps
   simp only [aU]
   rw [pI,show (if 0+1<(p::ps).length then ax (aU n k N ps).1 0 else N)=(aU n k N ps).2 by rw [e];simp]
   simp [ax,bN]
  | succ i=>
   simp only [aU]
   rw [pI,pI,pI,uV,ih i (by simpa using hi)]
   simp
def kR (ps:List (Nat × Nat)):Prop:=∀ i,bN ps i<8∧ax ps i<256
theorem Q7 {ps:List (Nat × Nat)} (h:∀ p∈ps,p.1<8∧p.2<256):kR ps:=by
 intro i
 unfold bN ax
 rw [List.getD]
 cases e:ps[i]? with
 | none=>simp
 | some p=>simpa using h p (List.mem_of_getElem? e)
theorem ny {n:Nd} {k N:Nat} {ps:List (Nat × Nat)} (hk:k<8) (hf:kR ps):kR (aU n k N ps).1:=by
 intro i
 rw [uR]
 refine ⟨(hf i).1,?_⟩
 by_cases hi:i<ps.length
 ·rw [xV n k N ps i hi]
  exact EW (hf i).2 hk
 ·unfold ax
  rw [List.getD,List.getElem?_eq_none (by rw [ma];omega)]
  simp
theorem Bg (n:Nd) (k:Nat) (ps:List (Nat × Nat)) (i:Nat):bN (bH n k ps) i=bN ps i:=by
 simp only [bN,bH,List.getD,List.getElem?_map]
 cases ps[i]? <;> rfl
theorem zx (n:Nd) (k:Nat) (ps:List (Nat × Nat)) (i:Nat) (hi:i<ps.length):ax (bH n k ps) i=qR (ax ps i) k (jM n.op):=by
 simp only [ax,bH,List.getD,List.getElem?_map,List.getElem?_eq_getElem hi]
 rfl
theorem oK {n:Nd} {k:Nat} {ps:List (Nat × Nat)} (hk:k<8) (hf:kR ps):kR (bH n k ps):=by
 intro i
 rw [Bg]
 refine ⟨(hf i).1,?_⟩
 by_cases hi:i<ps.length
 ·rw [zx n k ps i hi]
  exact EW (hf i).2 hk
 ·unfold ax
  rw [List.getD,List.getElem?_eq_none (by rw [ji];omega)]
  simp
theorem aar (n:Nd) (k back:Nat) (ps:List (Nat × Nat)) (i:Nat):bN (pY n k back ps) i=bN ps i:=by
 unfold pY;rw [uR,uR,Bg]
theorem Kk {n:Nd} {k back:Nat} {ps:List (Nat × Nat)} (hk:k<8) (hf:kR ps):kR (pY n k back ps):=
 ny hk (ny hk (oK hk hf))
theorem tH {n:Nd} {k N j:Nat} {ps:List (Nat × Nat)} (hk:k<8) (hj:j<8) (hne:j≠k) (hf:kR ps) (i:Nat) (hi:i<ps.length):(ax (aU n k N ps).1 i).testBit j=(ax ps i).testBit j:=by
 rw [xV n k N ps i hi,qA,sG (hf i).2 hk hj,if_neg hne]
theorem Fa {n:Nd} {k N:Nat} {ps:List (Nat × Nat)} (hk:k<8) (hf:kR ps) (i:Nat) (hi:i<ps.length) :
  (ax (aU n k N ps).1 i).testBit k=aK n.op (bN ps i) ((ax ps i).testBit n.l) ((ax ps i).testBit n.r) ((if i+1<ps.length then ax (aU n k N ps).1 (i+1) else N).testBit k) ((if i+1<ps.length then ax (aU n k N ps).1 (i+1) else N).testBit n.l):=by
 rw [xV n k N ps i hi,qA,sG (hf i).2 hk hk,if_pos rfl]
theorem Dj {n:Nd} {k j:Nat} {ps:List (Nat × Nat)} (hk:k<8) (hj:j<8) (hne:j≠k) (hf:kR ps) (i:Nat) (hi:i<ps.length):(ax (bH n k ps) i).testBit j=(ax ps i).testBit j:=by
 rw [zx n k ps i hi,sG (hf i).2 hk hj,if_neg hne]
theorem Ul {n:Nd} {k back j:Nat} {ps:List (Nat × Nat)} (hk:k<8) (hj:j<8) (hne:j≠k) (hf:kR ps) (i:Nat) (hi:i<ps.length):(ax (pY n k back ps) i).testBit j=(ax ps i).testBit j:=by
 unfold pY
 rw [tH hk hj hne (ny hk (oK hk hf)) i (by rw [ma,ji];exact hi),tH hk hj hne (oK hk hf) i (by rw [ji];exact hi),Dj hk hj hne hf i hi]
def Ux (n back:Nat) (lt:Nat→Nat) (ns:List Nd) (ps:List (Nat × Nat)):Prop:=
 ps.length=n∧kR ps∧(∀ i,i<n→bN ps i=lt i)∧∀ i,i<n→∀ k,k<ns.length→((ax ps i).testBit k=true↔dz (aG n back) lt ns k i)
theorem Sc {n back:Nat} {lt:Nat→Nat} {ns:List Nd} {ps:List (Nat × Nat)} (hb:back<n) (h:Ux n back lt ns ps) (nd:Nd) (hm:ns.length<8)
  (hw1:aP nd.op=false→nd.l<ns.length) (hw2:bz nd.op=true→nd.r<ns.length) (hop:aP nd.op=true∨dB nd.op=true∨bz nd.op=true) :
  Ux n back lt (ns++[nd]) (pY nd ns.length back ps):=by
 obtain ⟨hlen,hf,hlet,hbit⟩:=h
 refine ⟨by rw [Kl];exact hlen,Kk hm hf,fun i hi=>by rw [aar];exact hlet i hi,?_⟩
 intro i hi k hk
 by_cases JX:k<ns.length
 ·rw [Ul hm (by omega) (by omega) hf i (by omega),acw JX]
  exact hbit i hi k JX
 have hk2:k=ns.length:=by simp at hk;omega
 subst hk2
 rw [QG]
 -- the three tables
 have f0:=oK (n:=nd) hm hf
 have l0:=ji nd ns.length ps
 have f1:=ny (n:=nd) (N:=ax (bH nd ns.length ps) back) hm f0
 have l1:=ma nd ns.length (ax (bH nd ns.length ps) back) (bH nd ns.length ps)
 have o0:∀ j,j<ns.length→∀ i,i<n→(ax (bH nd ns.length ps) i).testBit j=(ax ps i).testBit j:=fun j hj i hi=>Dj hm (by omega) (by omega) hf i (by omega)
 have z0:(ax (bH nd ns.length ps) back).testBit ns.length=jM nd.op:=by rw [zx _ _ _ _ (by omega),sG (hf _).2 hm hm,if_pos rfl]
 have t0:∀ i,bN (bH nd ns.length ps) i=bN ps i:=Bg _ _ _
 have x1:=fun i (hi:i<n)=>Fa (n:=nd) (N:=ax (bH nd ns.length ps) back) hm f0 i (by omega)
 have o1:∀ j,j<ns.length→∀ i,i<n→(ax (aU nd ns.length (ax (bH nd ns.length ps) back) (bH nd ns.length ps)).1 i).testBit j=(ax ps i).testBit j:=fun j hj i hi=>(tH hm (by omega) (by omega) f0 i (by omega)).trans (o0 j hj i hi)
 have t1:∀ i,bN (aU nd ns.length (ax (bH nd ns.length ps) back) (bH nd ns.length ps)).1 i=bN ps i:=fun i=>(uR _ _ _ _ i).trans (t0 i)
 have ef:pY nd ns.length back ps=(aU nd ns.length (ax (aU nd ns.length (ax (bH nd ns.length ps) back) (bH nd ns.length ps)).1 back) (aU nd ns.length (ax (bH nd ns.length ps) back) (bH nd ns.length ps)).1).1:=rfl
 rw [ef]
 generalize bH nd ns.length ps=p0 at *
 generalize (aU nd ns.length (ax p0 back) p0).1=p1 at *
 have x2:=fun i (hi:i<n)=>Fa (n:=nd) (N:=ax p1 back) hm f1 i (by omega)
 have o2:∀ j,j<ns.length→∀ i,i<n→(ax (aU nd ns.length (ax p1 back) p1).1 i).testBit j=(ax ps i).testBit j:=fun j hj i hi=>(tH hm (by omega) (by omega) f1 i (by omega)).trans (o1 j hj i hi)
 generalize (aU nd ns.length (ax p1 back) p1).1=p2 at *
 rw [l0] at l1 x1
 rw [l1] at x2
 rw [hlen] at x1 x2
 -- the rows below
 have B:∀ j,j<ns.length→∀ i,i<n→((ax ps i).testBit j=true↔(rows (aG n back) lt ns).getD j (fun _=>False) i):=fun j hj i hi=>hbit i hi j hj
 have N2:∀ j,j<ns.length→∀ i,i<n→(if i+1<n then ax p2 (i+1) else ax p1 back).testBit j=(ax ps (aG n back i)).testBit j:=by
  intro j hj i hi
  unfold aG
  split
  ·exact o2 j hj _ (by omega)
  ·exact o1 j hj _ hb
 have hL:=M4 (i:=i) hb
 unfold kI
 rcases hop with hop | hop | hop
 ·rcases kV hop with e | e | e | e | e
  ·simp [e] at x2 ⊢;rw [x2 i hi];simp [aK]
  ·simp [e] at x2 ⊢;rw [x2 i hi];simp [aK]
  ·simp [e] at x2 ⊢;rw [x2 i hi,t1,hlet i hi];simp [aK]
  ·simp [e] at x2 ⊢;rw [x2 i hi,t1,hlet i hi];simp [aK]
  ·simp [e] at x2 ⊢;rw [x2 i hi,t1,hlet i hi];simp [aK]
 ·have hl:=hw1 (jw hop)
  rcases mR hop with e | e | e | e
  ·simp only [e] at x2 ⊢
   rw [x2 i hi,o1 _ hl i hi]
   simp [aK,←B _ hl i hi]
  ·simp only [e] at x2 ⊢
   rw [x2 i hi,N2 _ hl i hi]
   simp [aK,←B _ hl _ hL]
  ·-- F
   have key:=tF hb (fun _=>true) (fun i=>(ax ps i).testBit nd.l) (fun i=>(ax p1 i).testBit ns.length) (fun i=>(ax p2 i).testBit ns.length)
    (fun i hi=>by
     have:=x1 i hi
     rw [e,o0 _ hl i hi] at this
     simp only [aK] at this
     simp only [Nat.reduceEqDiff,if_false,if_true] at this
     rw [this]
     split
     ·simp
     ·rw [z0,e];simp [jM])
    (fun i hi=>by
     have:=x2 i hi
     rw [e,o1 _ hl i hi] at this
     simp only [aK] at this
     simp only [Nat.reduceEqDiff,if_false,if_true] at this
     rw [this]
     split <;> simp) i hi
   simp only [e,Nat.reduceEqDiff,if_false,if_true]
   rw [key]
   unfold UU
   constructor
   ·rintro ⟨s,h1,_⟩;exact ⟨s,(B _ hl _ (jU hb s i hi)).1 h1⟩
   ·rintro ⟨s,h1⟩;exact ⟨s,(B _ hl _ (jU hb s i hi)).2 h1,fun _ _=>rfl⟩
  ·-- G
   have key:=tF hb (fun _=>true) (fun i=>!(ax ps i).testBit nd.l) (fun i=>!(ax p1 i).testBit ns.length) (fun i=>!(ax p2 i).testBit ns.length)
    (fun i hi=>by
     have:=x1 i hi
     rw [e,o0 _ hl i hi] at this
     simp only [aK] at this
     simp only [Nat.reduceEqDiff,if_false,if_true] at this
     rw [this]
     split
     ·simp
     ·rw [z0,e];simp [jM])
    (fun i hi=>by
     have:=x2 i hi
     rw [e,o1 _ hl i hi] at this
     simp only [aK] at this
     simp only [Nat.reduceEqDiff,if_false,if_true] at this
     rw [this]
     split <;> simp) i hi
   simp only [e,Nat.reduceEqDiff,if_false,if_true]
   have Eu:(ax p2 i).testBit ns.length=true↔¬ UU (aG n back) (fun _=>true=true) (fun i=>(!(ax ps i).testBit nd.l)=true) i:=by
    rw [←key];simp
   rw [Eu]
   unfold UU
   constructor
   ·intro h s
    rw [←B _ hl _ (jU hb s i hi)]
    cases hc:(ax ps (it (aG n back) s i)).testBit nd.l with
    | true=>rfl
    | false=>exact absurd ⟨s,by simp [hc],fun _ _=>rfl⟩ h
   ·rintro h ⟨s,h1,_⟩
    have:=(B _ hl _ (jU hb s i hi)).2 (h s)
    simp [this] at h1
 ·have hl:=hw1 (lG hop)
  have hr:=hw2 hop
  rcases jL hop with e | e | e | e
  ·simp only [e] at x2 ⊢
   rw [x2 i hi,o1 _ hl i hi,o1 _ hr i hi]
   simp [aK,←B _ hl i hi,←B _ hr i hi]
  ·simp only [e] at x2 ⊢
   rw [x2 i hi,o1 _ hl i hi,o1 _ hr i hi]
   simp [aK,←B _ hl i hi,←B _ hr i hi]
  ·-- U
   have key:=tF hb (fun i=>(ax ps i).testBit nd.l) (fun i=>(ax ps i).testBit nd.r) (fun i=>(ax p1 i).testBit ns.length) (fun i=>(ax p2 i).testBit ns.length)
    (fun i hi=>by
     have:=x1 i hi
     rw [e,o0 _ hl i hi,o0 _ hr i hi] at this
     simp only [aK] at this
     simp only [Nat.reduceEqDiff,if_false,if_true] at this
     rw [this]
     split
     ·rfl
     ·rw [z0,e];simp [jM])
    (fun i hi=>by
     have:=x2 i hi
     rw [e,o1 _ hl i hi,o1 _ hr i hi] at this
     simp only [aK] at this
     simp only [Nat.reduceEqDiff,if_false,if_true] at this
     rw [this]
     split <;> rfl) i hi
   simp only [e,Nat.reduceEqDiff,if_false,if_true]
   rw [key]
   unfold UU
   constructor
   ·rintro ⟨s,h1,h2⟩;exact ⟨s,(B _ hr _ (jU hb s i hi)).1 h1,fun m hm=>(B _ hl _ (jU hb m i hi)).1 (h2 m hm)⟩
   ·rintro ⟨s,h1,h2⟩;exact ⟨s,(B _ hr _ (jU hb s i hi)).2 h1,fun m hm=>(B _ hl _ (jU hb m i hi)).2 (h2 m hm)⟩
  ·-- R
   have key:=tF hb (fun i=>!(ax ps i).testBit nd.l) (fun i=>!(ax ps i).testBit nd.r) (fun i=>!(ax p1 i).testBit ns.length) (fun i=>!(ax p2 i).testBit ns.length)
    (fun i hi=>by
     have:=x1 i hi
     rw [e,o0 _ hl i hi,o0 _ hr i hi] at this
     simp only [aK] at this
     simp only [Nat.reduceEqDiff,if_false,if_true] at this
     rw [this]
     split
     ·simp
     ·rw [z0,e];simp [jM])
    (fun i hi=>by
     have:=x2 i hi
     rw [e,o1 _ hl i hi,o1 _ hr i hi] at this
     simp only [aK] at this
     simp only [Nat.reduceEqDiff,if_false,if_true] at this
     rw [this]
     split <;> simp) i hi
   simp only [e,Nat.reduceEqDiff,if_false,if_true]
   have Eu:(ax p2 i).testBit ns.length=true↔¬ UU (aG n back) (fun i=>(!(ax ps i).testBit nd.l)=true) (fun i=>(!(ax ps i).testBit nd.r)=true) i:=by
    rw [←key];simp
   rw [Eu]
   unfold UU
   constructor
   ·intro h s
    cases hc:(ax ps (it (aG n back) s i)).testBit nd.r with
    | true=>exact Or.inl ((B _ hr _ (jU hb s i hi)).1 hc)
    | false=>
     refine Or.inr ?_
     refine Classical.byContradiction fun hn=>h ⟨s,by simp [hc],fun m hm=>?_⟩
     cases hd:(ax ps (it (aG n back) m i)).testBit nd.l with
     | false=>simp [hd]
     | true=>exact absurd ⟨m,hm,(B _ hl _ (jU hb m i hi)).1 hd⟩ hn
   ·rintro h ⟨s,h1,h2⟩
    rcases h s with h3 | ⟨m,hm,h3⟩
    ·have:=(B _ hr _ (jU hb s i hi)).2 h3
     simp [this] at h1
    ·have h4:=h2 m hm
     have:=(B _ hl _ (jU hb m i hi)).2 h3
     simp [this] at h4
def kF (b:Nat):Value:=.pointer (some ⟨b,0,none⟩)
def jT (bs:List Nat) (n:Nd):Option Addr:=if aP n.op then none else some ⟨bs.getD n.l 0,0,none⟩
def jR (bs:List Nat) (n:Nd):Option Addr:=if bz n.op then some ⟨bs.getD n.r 0,0,none⟩ else none
def bu (bs:List Nat) (i:Nat) (n:Nd):Obj:=.cells #[.int .u8 n.op,.pointer (jT bs n),.pointer (jR bs n),.int .i64 i] 204 (0,0)
theorem World.cell?_alloc_here (w:World) (c:Array Value) (t:TypeId) (n i:Nat) (h:n=w.heap.size):(w.alloc (.cells c t)).cell? ⟨n,i,none⟩=c[i]?:=by
 subst h;simp
structure Fm (w:World) (F:Nat) (ns:List Nd) (bs:List Nat):Prop where
 c0:∃ ao cap,w.cell? ⟨F,0,none⟩=some (.slice ao ns.length cap)∧w.ownsRow (F+1) 127 1 (.slice ao ns.length cap) ns.length (bs.map kF)
 f0:w.frozen? ⟨F,0,none⟩=false
 len:bs.length=ns.length
 wf:Wf ns
 parts:∀ (i:Nat) (n:Nd),ns[i]?=some n→∃ b,bs[i]?=some b∧F<b∧w.heap[b]?=some (bu bs i n)
def Kp (F:Nat) (w w':World):Prop:=∀ (q:Nat) (c:Array Value) (T:TypeId),w.heap[q]?=some (.cells c T (0,0))→T≠127→q≠F→w'.heap[q]?=some (.cells c T (0,0))
theorem bO {w:World} {q:Nat} {o:Obj} (h:w.heap[q]?=some o):q<w.heap.size:=(Array.getElem?_eq_some_iff.1 h).1
theorem Kp.trans {F:Nat} {a b c:World} (h:Kp F a b) (k:Kp F b c):Kp F a c:=fun q x T h1 h2 h3=>k q x T (h q x T h1 h2 h3) h2 h3
theorem Kp.alloc (F:Nat) (w:World) (o:Obj):Kp F w (w.alloc o):=fun q c T h _ _=>by rw [Below.heap_alloc w o q (bO h)];exact h
theorem Kp.set {F:Nat} {a w:World} (h:Kp F a w) {P:Nat} (hP:a.heap.size≤P∨P=F) (j:Nat) (v:Value):Kp F a (w.setCell ⟨P,j,none⟩ v):=fun q c T h1 h2 h3=>by
 have:=bO h1
 rw [Below.heap_setCell _ _ _ _ (by show q≠P;omega)]
 exact h q c T h1 h2 h3
theorem Kp.grown {F:Nat} {w w':World} {v:Value} {n:Nat} {xs:List Value} (own:w.ownsRow (F+1) 127 1 v n xs) (hg:w.grownBy w' v.ownBlock):Kp F w w':=fun q c T h1 h2 h3=>by
 rw [hg.block q (bO h1) (fun e=>?_)]
 ·exact h1
 ·rcases own.2 with ⟨hv,_⟩ | ⟨g,cap,cur,hv,_,hh,_⟩
  ·rw [hv] at e;simp [Value.ownBlock] at e
  ·rw [hv] at e
   simp [Value.ownBlock] at e
   subst e
   rw [h1] at hh
   simp at hh
   exact h2 hh.2
theorem sM {w:World} {B e:Nat} {size:Nat} {v:Value} {n:Nat} {xs:List Value} (own:w.ownsRow B e size v n xs) {P:Nat} {o:Obj} (hP:w.heap[P]?=some o) (ho:∀ c,o≠.cells c e (0,0)) (j:Nat) (u:Value) :
  (w.setCell ⟨P,j,none⟩ u).ownsRow B e size v n xs:=by
 obtain ⟨h1,h2⟩:=own
 refine ⟨h1,?_⟩
 rcases h2 with h2 | ⟨g,cap,cur,hv,hb,hh,r⟩
 ·exact Or.inl h2
 ·refine Or.inr ⟨g,cap,cur,hv,hb,?_,r⟩
  rw [Below.heap_setCell _ _ _ _ ?_]
  ·exact hh
  ·intro e'
   have e2:g=P:=e'
   subst e2
   rw [hh] at hP
   exact ho _ (Option.some.inj hP).symm
section
variable {w:World} {F:Nat} {ns:List Nd} {bs:List Nat}
theorem Fm.rf (h:Fm w F ns bs):F<w.heap.size:=by
 obtain ⟨_,_,c,_⟩:=h.c0
 exact World.block_lt_of_cell? w ⟨F,0,none⟩ c
theorem Fm.own (h:Fm w F ns bs) {v:Value} (hc:w.cell? ⟨F,0,none⟩=some v):(∃ ao cap,v=.slice ao ns.length cap)∧w.ownsRow (F+1) 127 1 v ns.length (bs.map kF):=by
 obtain ⟨ao,cap,c,own⟩:=h.c0
 rw [c] at hc
 cases hc
 exact ⟨⟨_,_,rfl⟩,own⟩
theorem Fm.lt (h:Fm w F ns bs):∀ b∈bs,b<w.heap.size∧F<b:=by
 intro b hb
 obtain ⟨i,hi,rfl⟩:=List.getElem_of_mem hb
 obtain ⟨b',e,hF,hh⟩:=h.parts i (ns[i]'(by rw [←h.len];exact hi)) (by simp)
 rw [List.getElem?_eq_getElem hi] at e
 cases e
 exact ⟨bO hh,hF⟩
theorem Fm.alloc (h:Fm w F ns bs) (o:Obj):Fm (w.alloc o) F ns bs:=by
 obtain ⟨ao,cap,c,own⟩:=h.c0
 refine ⟨⟨ao,cap,?_,own.alloc o⟩,?_,h.len,h.wf,?_⟩
 ·rw [World.cell?_alloc_past _ _ _ h.rf];exact c
 ·rw [World.frozen?_alloc_past _ _ _ h.rf];exact h.f0
 ·intro i n hn
  obtain ⟨b,e,hF,hh⟩:=h.parts i n hn
  exact ⟨b,e,hF,by rw [Below.heap_alloc _ _ _ (bO hh)];exact hh⟩
theorem Fm.drew (h:Fm w F ns bs):Fm w.drew F ns bs:=⟨h.c0,h.f0,h.len,h.wf,h.parts⟩
theorem Fm.set (h:Fm w F ns bs) {P:Nat} (hP:P ∉ bs) (hF:P≠F) {o:Obj} (ho:w.heap[P]?=some o) (hne:∀ c,o≠.cells c 127 (0,0)) (j:Nat) (v:Value):Fm (w.setCell ⟨P,j,none⟩ v) F ns bs:=by
 obtain ⟨ao,cap,c,own⟩:=h.c0
 refine ⟨⟨ao,cap,?_,sM own ho hne j v⟩,?_,h.len,h.wf,?_⟩
 ·rw [World.cell?_setCell_other _ _ _ _ (fun e=>hF (congrArg Addr.block e))];exact c
 ·rw [World.frozen?_setCell];exact h.f0
 ·intro i n hn
  obtain ⟨b,e,hF,hh⟩:=h.parts i n hn
  refine ⟨b,e,hF,?_⟩
  rw [Below.heap_setCell _ _ _ _ ?_]
  ·exact hh
  ·intro e'
   have e2:b=P:=e'
   subst e2
   exact hP (List.mem_of_getElem? e)
theorem xC {bs:List Nat} {i P:Nat} (h:i<bs.length):(bs++[P]).getD i 0=bs.getD i 0:=by
 simp [List.getD,List.getElem?_append_left h]
theorem MH {ns:List Nd} {bs:List Nat} (hw:Wf ns) (hl:bs.length=ns.length) {i:Nat} {n:Nd} (hn:ns[i]?=some n) (P:Nat):bu (bs++[P]) i n=bu bs i n:=by
 have hi:=(List.getElem?_eq_some_iff.1 hn).1
 obtain ⟨h1,h2⟩:=hw i n hn
 have e1:jT (bs++[P]) n=jT bs n:=by
  unfold jT
  cases hb:aP n.op with
  | true=>rfl
  | false=>rw [xC (by have:=h1 hb;omega)]
 have e2:jR (bs++[P]) n=jR bs n:=by
  unfold jR
  cases hb:bz n.op with
  | false=>rfl
  | true=>rw [xC (by have:=h2 hb;omega)]
 unfold bu
 rw [e1,e2]
theorem Fm.push (h:Fm w F ns bs) {w':World} (hk:Kp F w w') (hb:Below (F+1) w w') {P:Nat} (hPF:F<P) (n:Nd) (h1:aP n.op=false→n.l<ns.length) (h2:bz n.op=true→n.r<ns.length)
  (hP:w.heap[P]?=some (bu bs ns.length n)) (ao:Option Addr) (cap:Nat)
  (own:w'.ownsRow (F+1) 127 1 (.slice ao (ns.length+1) cap) (ns.length+1) (bs.map kF++[kF P])) :
  Fm (w'.setCell ⟨F,0,none⟩ (.slice ao (ns.length+1) cap)) F (ns++[n]) (bs++[P]):=by
 obtain ⟨_,_,c,_⟩:=h.c0
 have hw:=h.wf.snoc n h1 h2
 refine ⟨⟨ao,cap,?_,?_⟩,?_,by simp [h.len],hw,?_⟩
 ·rw [List.length_append,List.length_singleton]
  exact World.cell?_setCell_same _ _ _ ((hb.cell (p:=⟨F,0,none⟩) (Nat.lt_succ_self _)).trans c)
 ·rw [List.length_append,List.length_singleton,List.map_append]
  exact ownsRow_setCell_below own (by simp) _
 ·rw [World.frozen?_setCell,hb.frozen (p:=⟨F,0,none⟩) (Nat.lt_succ_self _)];exact h.f0
 ·intro i m hm
  by_cases hi:i<ns.length
  ·rw [List.getElem?_append_left hi] at hm
   obtain ⟨b,e,hF,hh⟩:=h.parts i m hm
   refine ⟨b,by rw [List.getElem?_append_left (by rw [h.len];exact hi)];exact e,hF,?_⟩
   rw [Below.heap_setCell _ _ _ _ (by show b≠F;omega),MH h.wf h.len hm]
   exact hk b _ _ hh (by decide) (by omega)
  ·have hi2:i=ns.length:=by
    have:=(List.getElem?_eq_some_iff.1 hm).1
    simp at this;omega
   subst hi2
   simp at hm
   subst hm
   refine ⟨P,by rw [←h.len];simp,hPF,?_⟩
   rw [Below.heap_setCell _ _ _ _ (by show P≠F;omega),show bu (bs++[P]) ns.length n=bu bs ns.length n from ?_]
   ·exact hk P _ _ hP (by decide) (by omega)
   ·have e1:jT (bs++[P]) n=jT bs n:=by
     unfold jT
     cases hb:aP n.op with
     | true=>rfl
     | false=>rw [xC (by have:=h1 hb;rw [h.len];omega)]
    have e2:jR (bs++[P]) n=jR bs n:=by
     unfold jR
     cases hb:bz n.op with
     | false=>rfl
     | true=>rw [xC (by have:=h2 hb;rw [h.len];omega)]
    unfold bu
    rw [e1,e2]
end
end Go.Proofs.YtjagijohfkffiabGreat
