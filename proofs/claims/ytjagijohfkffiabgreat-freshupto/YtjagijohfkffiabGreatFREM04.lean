import Derived.Test.YtjagijohfkffiabGreatFREM03
set_option maxHeartbeats 16000000
set_option maxRecDepth 100000
set_option linter.unusedSimpArgs false
namespace Go.Proofs.YtjagijohfkffiabGreat
open Go.RowKit
set_option linter.unusedVariables false
def bi(op letter:Nat)(l r later nl:Bool):Bool:=
 if op=49 then true else if op=112 then letter.testBit 0 else if op=113 then letter.testBit 1 else if op=114 then letter.testBit 2 else
 if op=33 then !l else if op=88 then nl else if op=70 then l||later else if op=71 then l&&later else if op=38 then l&&r else if op=124 then l||r else
 if op=85 then r||(l&&later) else if op=82 then r&&(l||later) else false
theorem lC:∀ x:Fin 8,(bits BinOp.and IntKind.i64 (x.val:Int) 1 !=0)=x.val.testBit 0/\(bits BinOp.and IntKind.i64 (x.val:Int) 2 !=0)=x.val.testBit 1/\(bits BinOp.and IntKind.i64 (x.val:Int) 4 !=0)=x.val.testBit 2:=by decide +kernel
def DD(n:Nd):Value:=.agg #[.int .u8 n.op,.int .i64 n.l,.int .i64 n.r]
theorem ajx(l r self letter S N:Nat)(w:World)(hl:l<8)(hr:r<8)(hs:self<8)(hx:letter<8)(hS:S<256)(hN:N<256) :
  Calls Tryz.prog 114 #[.agg #[.int .u8 (49:Nat),.int .i64 l,.int .i64 r],.int .i64 self,.int .i64 letter,.int .i64 S,.int .i64 N] w λe w'=>e=.returned (.bool (bi 49 letter (S.testBit l) (S.testBit r) (N.testBit self) (N.testBit l)))/\Below w.heap.size w w':=by
 have L:=hid (lC ⟨letter,hx⟩);go_enter Tryz.func114,Tryz.ntmps114;go_wp2_with fail;refine(bN S l _ hS hl).mono ?_;rintro e w' ⟨rfl,rfl⟩;go_wp2_with fail;refine(bN S r _ hS hr).mono ?_;rintro e w' ⟨rfl,rfl⟩;go_wp2_with fail;refine(bN N self _ hN hs).mono ?_;rintro e w' ⟨rfl,rfl⟩;go_wp2_with fail;go_ret;exact⟨rfl,(aAW _ _).alloc (aAU _) _⟩
theorem aid(l r self letter S N:Nat)(w:World)(hl:l<8)(hr:r<8)(hs:self<8)(hx:letter<8)(hS:S<256)(hN:N<256) :
  Calls Tryz.prog 114 #[.agg #[.int .u8 (112:Nat),.int .i64 l,.int .i64 r],.int .i64 self,.int .i64 letter,.int .i64 S,.int .i64 N] w λe w'=>e=.returned (.bool (bi 112 letter (S.testBit l) (S.testBit r) (N.testBit self) (N.testBit l)))/\Below w.heap.size w w':=by
 have L:=hid (lC ⟨letter,hx⟩);go_enter Tryz.func114,Tryz.ntmps114;go_wp2_with fail;refine(bN S l _ hS hl).mono ?_;rintro e w' ⟨rfl,rfl⟩;go_wp2_with fail;refine(bN S r _ hS hr).mono ?_;rintro e w' ⟨rfl,rfl⟩;go_wp2_with fail;refine(bN N self _ hN hs).mono ?_;rintro e w' ⟨rfl,rfl⟩;go_wp2_with fail;go_ret;exact⟨qE L.out.1,(aAW _ _).alloc (aAU _) _⟩
theorem aic(l r self letter S N:Nat)(w:World)(hl:l<8)(hr:r<8)(hs:self<8)(hx:letter<8)(hS:S<256)(hN:N<256) :
  Calls Tryz.prog 114 #[.agg #[.int .u8 (113:Nat),.int .i64 l,.int .i64 r],.int .i64 self,.int .i64 letter,.int .i64 S,.int .i64 N] w λe w'=>e=.returned (.bool (bi 113 letter (S.testBit l) (S.testBit r) (N.testBit self) (N.testBit l)))/\Below w.heap.size w w':=by
 have L:=hid (lC ⟨letter,hx⟩);go_enter Tryz.func114,Tryz.ntmps114;go_wp2_with fail;refine(bN S l _ hS hl).mono ?_;rintro e w' ⟨rfl,rfl⟩;go_wp2_with fail;refine(bN S r _ hS hr).mono ?_;rintro e w' ⟨rfl,rfl⟩;go_wp2_with fail;refine(bN N self _ hN hs).mono ?_;rintro e w' ⟨rfl,rfl⟩;go_wp2_with fail;go_ret;exact⟨qE L.out.2.1,(aAW _ _).alloc (aAU _) _⟩
theorem aib(l r self letter S N:Nat)(w:World)(hl:l<8)(hr:r<8)(hs:self<8)(hx:letter<8)(hS:S<256)(hN:N<256) :
  Calls Tryz.prog 114 #[.agg #[.int .u8 (114:Nat),.int .i64 l,.int .i64 r],.int .i64 self,.int .i64 letter,.int .i64 S,.int .i64 N] w λe w'=>e=.returned (.bool (bi 114 letter (S.testBit l) (S.testBit r) (N.testBit self) (N.testBit l)))/\Below w.heap.size w w':=by
 have L:=hid (lC ⟨letter,hx⟩);go_enter Tryz.func114,Tryz.ntmps114;go_wp2_with fail;refine(bN S l _ hS hl).mono ?_;rintro e w' ⟨rfl,rfl⟩;go_wp2_with fail;refine(bN S r _ hS hr).mono ?_;rintro e w' ⟨rfl,rfl⟩;go_wp2_with fail;refine(bN N self _ hN hs).mono ?_;rintro e w' ⟨rfl,rfl⟩;go_wp2_with fail;go_ret;exact⟨qE L.out.2.2,(aAW _ _).alloc (aAU _) _⟩
theorem ajz(l r self letter S N:Nat)(w:World)(hl:l<8)(hr:r<8)(hs:self<8)(hx:letter<8)(hS:S<256)(hN:N<256) :
  Calls Tryz.prog 114 #[.agg #[.int .u8 (33:Nat),.int .i64 l,.int .i64 r],.int .i64 self,.int .i64 letter,.int .i64 S,.int .i64 N] w λe w'=>e=.returned (.bool (bi 33 letter (S.testBit l) (S.testBit r) (N.testBit self) (N.testBit l)))/\Below w.heap.size w w':=by
 have L:=hid (lC ⟨letter,hx⟩);cases el:S.testBit l
 all_goals
  go_enter Tryz.func114,Tryz.ntmps114;go_wp2_with fail;refine(bN S l _ hS hl).mono ?_;rintro e w' ⟨rfl,rfl⟩;go_wp2_with fail;refine(bN S r _ hS hr).mono ?_;rintro e w' ⟨rfl,rfl⟩;go_wp2_with fail;refine(bN N self _ hN hs).mono ?_;rintro e w' ⟨rfl,rfl⟩;go_wp2_with fail;go_ret;exact⟨rfl,(aAW _ _).alloc (aAU _) _⟩
theorem ajs(l r self letter S N:Nat)(w:World)(hl:l<8)(hr:r<8)(hs:self<8)(hx:letter<8)(hS:S<256)(hN:N<256) :
  Calls Tryz.prog 114 #[.agg #[.int .u8 (88:Nat),.int .i64 l,.int .i64 r],.int .i64 self,.int .i64 letter,.int .i64 S,.int .i64 N] w λe w'=>e=.returned (.bool (bi 88 letter (S.testBit l) (S.testBit r) (N.testBit self) (N.testBit l)))/\Below w.heap.size w w':=by
 have L:=hid (lC ⟨letter,hx⟩);go_enter Tryz.func114,Tryz.ntmps114;go_wp2_with fail;refine(bN S l _ hS hl).mono ?_;rintro e w' ⟨rfl,rfl⟩;go_wp2_with fail;refine(bN S r _ hS hr).mono ?_;rintro e w' ⟨rfl,rfl⟩;go_wp2_with fail;refine(bN N self _ hN hs).mono ?_;rintro e w' ⟨rfl,rfl⟩;go_wp2_with fail;refine(bN N l _ hN hl).mono ?_;rintro e w' ⟨rfl,rfl⟩;go_wp2_with fail;go_ret;exact⟨rfl,(aAW _ _).alloc (aAU _) _⟩
theorem ajw(l r self letter S N:Nat)(w:World)(hl:l<8)(hr:r<8)(hs:self<8)(hx:letter<8)(hS:S<256)(hN:N<256) :
  Calls Tryz.prog 114 #[.agg #[.int .u8 (70:Nat),.int .i64 l,.int .i64 r],.int .i64 self,.int .i64 letter,.int .i64 S,.int .i64 N] w λe w'=>e=.returned (.bool (bi 70 letter (S.testBit l) (S.testBit r) (N.testBit self) (N.testBit l)))/\Below w.heap.size w w':=by
 have L:=hid (lC ⟨letter,hx⟩);cases el:S.testBit l
 all_goals cases et:N.testBit self
 all_goals
  go_enter Tryz.func114,Tryz.ntmps114;go_wp2_with fail;refine(bN S l _ hS hl).mono ?_;rintro e w' ⟨rfl,rfl⟩;go_wp2_with fail;refine(bN S r _ hS hr).mono ?_;rintro e w' ⟨rfl,rfl⟩;go_wp2_with fail;refine(bN N self _ hN hs).mono ?_;rintro e w' ⟨rfl,rfl⟩;go_wp2_with fail;go_ret;exact⟨rfl,(aAW _ _).alloc (aAU _) _⟩
theorem ajv(l r self letter S N:Nat)(w:World)(hl:l<8)(hr:r<8)(hs:self<8)(hx:letter<8)(hS:S<256)(hN:N<256) :
  Calls Tryz.prog 114 #[.agg #[.int .u8 (71:Nat),.int .i64 l,.int .i64 r],.int .i64 self,.int .i64 letter,.int .i64 S,.int .i64 N] w λe w'=>e=.returned (.bool (bi 71 letter (S.testBit l) (S.testBit r) (N.testBit self) (N.testBit l)))/\Below w.heap.size w w':=by
 have L:=hid (lC ⟨letter,hx⟩);cases el:S.testBit l
 all_goals cases et:N.testBit self
 all_goals
  go_enter Tryz.func114,Tryz.ntmps114;go_wp2_with fail;refine(bN S l _ hS hl).mono ?_;rintro e w' ⟨rfl,rfl⟩;go_wp2_with fail;refine(bN S r _ hS hr).mono ?_;rintro e w' ⟨rfl,rfl⟩;go_wp2_with fail;refine(bN N self _ hN hs).mono ?_;rintro e w' ⟨rfl,rfl⟩;go_wp2_with fail;go_ret;exact⟨rfl,(aAW _ _).alloc (aAU _) _⟩
theorem ajy(l r self letter S N:Nat)(w:World)(hl:l<8)(hr:r<8)(hs:self<8)(hx:letter<8)(hS:S<256)(hN:N<256) :
  Calls Tryz.prog 114 #[.agg #[.int .u8 (38:Nat),.int .i64 l,.int .i64 r],.int .i64 self,.int .i64 letter,.int .i64 S,.int .i64 N] w λe w'=>e=.returned (.bool (bi 38 letter (S.testBit l) (S.testBit r) (N.testBit self) (N.testBit l)))/\Below w.heap.size w w':=by
 have L:=hid (lC ⟨letter,hx⟩);cases el:S.testBit l
 all_goals cases er:S.testBit r
 all_goals
  go_enter Tryz.func114,Tryz.ntmps114;go_wp2_with fail;refine(bN S l _ hS hl).mono ?_;rintro e w' ⟨rfl,rfl⟩;go_wp2_with fail;refine(bN S r _ hS hr).mono ?_;rintro e w' ⟨rfl,rfl⟩;go_wp2_with fail;refine(bN N self _ hN hs).mono ?_;rintro e w' ⟨rfl,rfl⟩;go_wp2_with fail;go_ret;exact⟨rfl,(aAW _ _).alloc (aAU _) _⟩
theorem aia(l r self letter S N:Nat)(w:World)(hl:l<8)(hr:r<8)(hs:self<8)(hx:letter<8)(hS:S<256)(hN:N<256) :
  Calls Tryz.prog 114 #[.agg #[.int .u8 (124:Nat),.int .i64 l,.int .i64 r],.int .i64 self,.int .i64 letter,.int .i64 S,.int .i64 N] w λe w'=>e=.returned (.bool (bi 124 letter (S.testBit l) (S.testBit r) (N.testBit self) (N.testBit l)))/\Below w.heap.size w w':=by
 have L:=hid (lC ⟨letter,hx⟩);cases el:S.testBit l
 all_goals cases er:S.testBit r
 all_goals
  go_enter Tryz.func114,Tryz.ntmps114;go_wp2_with fail;refine(bN S l _ hS hl).mono ?_;rintro e w' ⟨rfl,rfl⟩;go_wp2_with fail;refine(bN S r _ hS hr).mono ?_;rintro e w' ⟨rfl,rfl⟩;go_wp2_with fail;refine(bN N self _ hN hs).mono ?_;rintro e w' ⟨rfl,rfl⟩;go_wp2_with fail;go_ret;exact⟨rfl,(aAW _ _).alloc (aAU _) _⟩
theorem ajt(l r self letter S N:Nat)(w:World)(hl:l<8)(hr:r<8)(hs:self<8)(hx:letter<8)(hS:S<256)(hN:N<256) :
  Calls Tryz.prog 114 #[.agg #[.int .u8 (85:Nat),.int .i64 l,.int .i64 r],.int .i64 self,.int .i64 letter,.int .i64 S,.int .i64 N] w λe w'=>e=.returned (.bool (bi 85 letter (S.testBit l) (S.testBit r) (N.testBit self) (N.testBit l)))/\Below w.heap.size w w':=by
 have L:=hid (lC ⟨letter,hx⟩);cases el:S.testBit l
 all_goals cases er:S.testBit r
 all_goals cases et:N.testBit self
 all_goals
  go_enter Tryz.func114,Tryz.ntmps114;go_wp2_with fail;refine(bN S l _ hS hl).mono ?_;rintro e w' ⟨rfl,rfl⟩;go_wp2_with fail;refine(bN S r _ hS hr).mono ?_;rintro e w' ⟨rfl,rfl⟩;go_wp2_with fail;refine(bN N self _ hN hs).mono ?_;rintro e w' ⟨rfl,rfl⟩;go_wp2_with fail;go_ret;exact⟨rfl,(aAW _ _).alloc (aAU _) _⟩
theorem aju(l r self letter S N:Nat)(w:World)(hl:l<8)(hr:r<8)(hs:self<8)(hx:letter<8)(hS:S<256)(hN:N<256) :
  Calls Tryz.prog 114 #[.agg #[.int .u8 (82:Nat),.int .i64 l,.int .i64 r],.int .i64 self,.int .i64 letter,.int .i64 S,.int .i64 N] w λe w'=>e=.returned (.bool (bi 82 letter (S.testBit l) (S.testBit r) (N.testBit self) (N.testBit l)))/\Below w.heap.size w w':=by
 have L:=hid (lC ⟨letter,hx⟩);cases el:S.testBit l
 all_goals cases er:S.testBit r
 all_goals cases et:N.testBit self
 all_goals
  go_enter Tryz.func114,Tryz.ntmps114;go_wp2_with fail;refine(bN S l _ hS hl).mono ?_;rintro e w' ⟨rfl,rfl⟩;go_wp2_with fail;refine(bN S r _ hS hr).mono ?_;rintro e w' ⟨rfl,rfl⟩;go_wp2_with fail;refine(bN N self _ hN hs).mono ?_;rintro e w' ⟨rfl,rfl⟩;go_wp2_with fail;go_ret;exact⟨rfl,(aAW _ _).alloc (aAU _) _⟩
theorem aas(op:Nat)(l r self letter S N:Nat)(w:World)(hl:l<8)(hr:r<8)(hs:self<8)(hx:letter<8)(hS:S<256)(hN:N<256)(hop:∀ k∈[49,112,113,114,33,88,70,71,38,124,85,82],op≠k) :
  Calls Tryz.prog 114 #[.agg #[.int .u8 (op:Nat),.int .i64 l,.int .i64 r],.int .i64 self,.int .i64 letter,.int .i64 S,.int .i64 N] w λe w'=>e=.returned (.bool (bi op letter (S.testBit l) (S.testBit r) (N.testBit self) (N.testBit l)))/\Below w.heap.size w w':=by
 have k49:((op:Int)==49)=false:=aA6.2 (by have:=hop 49 (by simp);omega);have ajD:((op:Int)==112)=false:=aA6.2 (by have:=hop 112 (by simp);omega);have ajC:((op:Int)==113)=false:=aA6.2 (by have:=hop 113 (by simp);omega);have ajB:((op:Int)==114)=false:=aA6.2 (by have:=hop 114 (by simp);omega);have k33:((op:Int)==33)=false:=aA6.2 (by have:=hop 33 (by simp);omega);have k88:((op:Int)==88)=false:=aA6.2 (by have:=hop 88 (by simp);omega);have k70:((op:Int)==70)=false:=aA6.2 (by have:=hop 70 (by simp);omega);have k71:((op:Int)==71)=false:=aA6.2 (by have:=hop 71 (by simp);omega);have k38:((op:Int)==38)=false:=aA6.2 (by have:=hop 38 (by simp);omega);have arx:((op:Int)==124)=false:=aA6.2 (by have:=hop 124 (by simp);omega);have k85:((op:Int)==85)=false:=aA6.2 (by have:=hop 85 (by simp);omega);have k82:((op:Int)==82)=false:=aA6.2 (by have:=hop 82 (by simp);omega);have E:Hid (bi op letter (S.testBit l) (S.testBit r) (N.testBit self) (N.testBit l)=false):=hid (by unfold bi;rw[aBT (hop 49 (by simp))];rw[aBT (hop 112 (by simp))];rw[aBT (hop 113 (by simp))];rw[aBT (hop 114 (by simp))];rw[aBT (hop 33 (by simp))];rw[aBT (hop 88 (by simp))];rw[aBT (hop 70 (by simp))];rw[aBT (hop 71 (by simp))];rw[aBT (hop 38 (by simp))];rw[aBT (hop 124 (by simp))];rw[aBT (hop 85 (by simp))];rw[aBT (hop 82 (by simp))]);clear hop;go_enter Tryz.func114,Tryz.ntmps114;go_wp2_with fail;refine(bN S l _ hS hl).mono ?_;rintro e w' ⟨rfl,rfl⟩;go_wp2_with fail;refine(bN S r _ hS hr).mono ?_;rintro e w' ⟨rfl,rfl⟩;go_wp2_with fail;refine(bN N self _ hN hs).mono ?_;rintro e w' ⟨rfl,rfl⟩;go_wp2_with fail;go_ret;exact⟨by rw[E.out];rfl,(aAW _ _).alloc (aAU _) _⟩
theorem ah9(n:Nd)(self letter S N:Nat)(w:World)(hl:n.l<8)(hr:n.r<8)(hs:self<8)(hx:letter<8)(hS:S<256)(hN:N<256) :
  Calls Tryz.prog 114 #[DD n,.int .i64 self,.int .i64 letter,.int .i64 S,.int .i64 N] w λe w'=>e=.returned (.bool (bi n.op letter (S.testBit n.l) (S.testBit n.r) (N.testBit self) (N.testBit n.l)))/\Below w.heap.size w w':=by
 obtain⟨op,l,r⟩:=n;unfold DD;dsimp only at *;by_cases Ox:op=49
 ·subst Ox;exact ajx l r self letter S N w hl hr hs hx hS hN
 by_cases Fz:op=112
 ·subst Fz;exact aid l r self letter S N w hl hr hs hx hS hN
 by_cases Fy:op=113
 ·subst Fy;exact aic l r self letter S N w hl hr hs hx hS hN
 by_cases Fx:op=114
 ·subst Fx;exact aib l r self letter S N w hl hr hs hx hS hN
 by_cases Oy:op=33
 ·subst Oy;exact ajz l r self letter S N w hl hr hs hx hS hN
 by_cases Ou:op=88
 ·subst Ou;exact ajs l r self letter S N w hl hr hs hx hS hN
 by_cases Ow:op=70
 ·subst Ow;exact ajw l r self letter S N w hl hr hs hx hS hN
 by_cases Ov:op=71
 ·subst Ov;exact ajv l r self letter S N w hl hr hs hx hS hN
 by_cases h38:op=38
 ·subst h38;exact ajy l r self letter S N w hl hr hs hx hS hN
 by_cases asq:op=124
 ·subst asq;exact aia l r self letter S N w hl hr hs hx hS hN
 by_cases h85:op=85
 ·subst h85;exact ajt l r self letter S N w hl hr hs hx hS hN
 by_cases h82:op=82
 ·subst h82;exact aju l r self letter S N w hl hr hs hx hS hN
 exact aas op l r self letter S N w hl hr hs hx hS hN (by intro k hk;simp at hk;omega)
def lJ(op:Nat):Bool:=op==71||op==82
theorem aat(n:Nd)(w:World):Calls Tryz.prog 116 #[DD n] w λe w'=>e=.returned (.bool (lJ n.op))/\Below w.heap.size w w':=by
 obtain⟨op,l,r⟩:=n;unfold DD;dsimp only at *;by_cases h1:op=71
 ·subst h1;go_enter Tryz.func116,Tryz.ntmps116;go_wp2;go_ret;exact⟨rfl,(aAW _ _).alloc (aAU _) _⟩
 by_cases h2:op=82
 ·subst h2;go_enter Tryz.func116,Tryz.ntmps116;go_wp2;go_ret;exact⟨rfl,(aAW _ _).alloc (aAU _) _⟩
 have k1:((op:Int)==71)=false:=aA6.2 (by omega);have k2:((op:Int)==82)=false:=aA6.2 (by omega);have E:Hid (lJ op=false):=hid (by simp[lJ,h1,h2]);go_enter Tryz.func116,Tryz.ntmps116;go_wp2;go_ret;exact⟨by rw[E.out];rfl,(aAW _ _).alloc (aAU _) _⟩
def aJ(ps:List (Nat × Nat))(i:Nat):Nat:=(ps.getD i (0,0)).2
def jb(ps:List (Nat × Nat))(i:Nat):Nat:=(ps.getD i (0,0)).1
def Bb(n:Nd)(k:Nat)(p:Nat × Nat)(N:Nat):Nat:=xL p.2 k (bi n.op p.1 (p.2.testBit n.l) (p.2.testBit n.r) (N.testBit k) (N.testBit n.l))
def dL(n:Nd)(k:Nat)(N:Nat):List (Nat × Nat)->List (Nat × Nat) × Nat
 | []=>([],N)
 | p::ps=>((p.1,Bb n k p (dL n k N ps).2)::(dL n k N ps).1,Bb n k p (dL n k N ps).2)
def fw(n:Nd)(k:Nat)(ps:List (Nat × Nat)):List (Nat × Nat):=ps.map λp=>(p.1,xL p.2 k (lJ n.op))
def uT(n:Nd)(k back:Nat)(ps:List (Nat × Nat)):List (Nat × Nat):=
 (dL n k (aJ (dL n k (aJ (fw n k ps) back) (fw n k ps)).1 back) (dL n k (aJ (fw n k ps) back) (fw n k ps)).1).1
theorem rR(n:Nd)(k N:Nat)(ps:List (Nat × Nat)):(dL n k N ps).1.length=ps.length:=by
 induction ps with
 | nil=>rfl
 | cons p ps ih=>simp[dL,ih]
theorem rU(n:Nd)(k:Nat)(ps:List (Nat × Nat)):(fw n k ps).length=ps.length:=by simp[fw]
theorem abv(n:Nd)(k back:Nat)(ps:List (Nat × Nat)):(uT n k back ps).length=ps.length:=by
 unfold uT;rw[rR,rR,rU]
theorem uS(p:Nat × Nat)(ps:List (Nat × Nat))(i:Nat):aJ (p::ps) (i+1)=aJ ps i:=by simp[aJ]
theorem CG(p:Nat × Nat)(ps:List (Nat × Nat))(i:Nat):jb (p::ps) (i+1)=jb ps i:=by simp[jb]
theorem U2(n:Nd)(k N:Nat)(ps:List (Nat × Nat)):(dL n k N ps).2=if 0<ps.length then aJ (dL n k N ps).1 0 else N:=by
 cases ps with
 | nil=>rfl
 | cons p ps=>simp[dL,aJ]
theorem wV(n:Nd)(k N:Nat)(ps:List (Nat × Nat))(i:Nat):jb (dL n k N ps).1 i=jb ps i:=by
 induction ps generalizing i with
 | nil=>rfl
 | cons p ps ih=>
  cases i with
  | zero=>simp[dL,jb]
  | succ i=>simp only[dL];rw[CG,CG];exact ih i
theorem Ag(n:Nd)(k N:Nat)(ps:List (Nat × Nat))(i:Nat)(hi:i<ps.length) :
  aJ (dL n k N ps).1 i=Bb n k (jb ps i,aJ ps i) (if i+1<ps.length then aJ (dL n k N ps).1 (i+1) else N):=by
 induction ps generalizing i with
 | nil=>simp at hi
 | cons p ps ih=>
  cases i with
  | zero=>
   have e:=U2 n k N ps;simp only[dL];rw[uS,show (if 0+1<(p::ps).length then aJ (dL n k N ps).1 0 else N)=(dL n k N ps).2 by rw[e];simp];simp[aJ,jb]
  | succ i=>
   simp only[dL];rw[uS,uS,uS,CG,ih i (by simpa using hi)];simp
def tC(ps:List (Nat × Nat)):Prop:=∀ i,jb ps i<8/\aJ ps i<256
theorem aio{ps:List (Nat × Nat)}(h:∀ p∈ps,p.1<8/\p.2<256):tC ps:=by
 intro i;unfold jb aJ;rw[List.getD];cases e:ps[i]? with
 | none=>simp
 | some p=>simpa using h p (aBB e)
theorem uQ{n:Nd}{k N:Nat}{ps:List (Nat × Nat)}(hk:k<8)(hf:tC ps):tC (dL n k N ps).1:=by
 intro i;rw[wV];refine⟨(hf i).1,?_⟩;by_cases hi:i<ps.length
 ·rw[Ag n k N ps i hi];exact JG (hf i).2 hk
 ·unfold aJ;rw[List.getD,List.getElem?_eq_none (by rw[rR];omega)];simp
theorem Ep(n:Nd)(k:Nat)(ps:List (Nat × Nat))(i:Nat):jb (fw n k ps) i=jb ps i:=by
 simp only[jb,fw,List.getD,aBk];cases ps[i]? <;> rfl
theorem Cn(n:Nd)(k:Nat)(ps:List (Nat × Nat))(i:Nat)(hi:i<ps.length):aJ (fw n k ps) i=xL (aJ ps i) k (lJ n.op):=by
 simp only[aJ,fw,List.getD,aBk,aAV hi];rfl
theorem wW{n:Nd}{k:Nat}{ps:List (Nat × Nat)}(hk:k<8)(hf:tC ps):tC (fw n k ps):=by
 intro i;rw[Ep];refine⟨(hf i).1,?_⟩;by_cases hi:i<ps.length
 ·rw[Cn n k ps i hi];exact JG (hf i).2 hk
 ·unfold aJ;rw[List.getD,List.getElem?_eq_none (by rw[rU];omega)];simp
theorem aeJ(n:Nd)(k back:Nat)(ps:List (Nat × Nat))(i:Nat):jb (uT n k back ps) i=jb ps i:=by
 unfold uT;rw[wV,wV,Ep]
theorem abu{n:Nd}{k back:Nat}{ps:List (Nat × Nat)}(hk:k<8)(hf:tC ps):tC (uT n k back ps):=
 uQ hk (uQ hk (wW hk hf))
theorem uP{n:Nd}{k N j:Nat}{ps:List (Nat × Nat)}(hk:k<8)(hj:j<8)(hne:j≠k)(hf:tC ps)(i:Nat)(hi:i<ps.length):(aJ (dL n k N ps).1 i).testBit j=(aJ ps i).testBit j:=by
 rw[Ag n k N ps i hi,Bb,um (hf i).2 hk hj,aBT hne]
theorem JH{n:Nd}{k N:Nat}{ps:List (Nat × Nat)}(hk:k<8)(hf:tC ps)(i:Nat)(hi:i<ps.length) :
  (aJ (dL n k N ps).1 i).testBit k=bi n.op (jb ps i) ((aJ ps i).testBit n.l) ((aJ ps i).testBit n.r) ((if i+1<ps.length then aJ (dL n k N ps).1 (i+1) else N).testBit k) ((if i+1<ps.length then aJ (dL n k N ps).1 (i+1) else N).testBit n.l):=by
 rw[Ag n k N ps i hi,Bb,um (hf i).2 hk hk,aBU rfl]
theorem Hm{n:Nd}{k j:Nat}{ps:List (Nat × Nat)}(hk:k<8)(hj:j<8)(hne:j≠k)(hf:tC ps)(i:Nat)(hi:i<ps.length):(aJ (fw n k ps) i).testBit j=(aJ ps i).testBit j:=by
 rw[Cn n k ps i hi,um (hf i).2 hk hj,aBT hne]
theorem YN{n:Nd}{k back j:Nat}{ps:List (Nat × Nat)}(hk:k<8)(hj:j<8)(hne:j≠k)(hf:tC ps)(i:Nat)(hi:i<ps.length):(aJ (uT n k back ps) i).testBit j=(aJ ps i).testBit j:=by
 unfold uT;rw[uP hk hj hne (uQ hk (wW hk hf)) i (by rw[rR,rU];exact hi),uP hk hj hne (wW hk hf) i (by rw[rU];exact hi),Hm hk hj hne hf i hi]
def YX(n back:Nat)(lt:Nat->Nat)(ns:List Nd)(ps:List (Nat × Nat)):Prop:=
 ps.length=n/\tC ps/\(∀ i,i<n->jb ps i=lt i)/\∀ i,i<n->∀ k,k<ns.length->((aJ ps i).testBit k=true↔fA (aU n back) lt ns k i)
theorem XA{n back:Nat}{lt:Nat->Nat}{ns:List Nd}{ps:List (Nat × Nat)}(hb:back<n)(h:YX n back lt ns ps)(nd:Nd)(hm:ns.length<8)
  (hw1:bF nd.op=false->nd.l<ns.length) (hw2:bQ nd.op=true->nd.r<ns.length) (hop:bF nd.op=true\/dY nd.op=true\/bQ nd.op=true) :
  YX n back lt (ns++[nd]) (uT nd ns.length back ps):=by
 obtain⟨hlen,hf,Yy,YG⟩:=h;refine⟨by rw[abv];exact hlen,abu hm hf,λi hi=>by rw[aeJ];exact Yy i hi,?_⟩;intro i hi k hk;by_cases hkm:k<ns.length
 ·rw[YN hm (by omega) (by omega) hf i (by omega),ahE hkm];exact YG i hi k hkm
 have DR:k=ns.length:=by simp at hk;omega
 subst DR;rw[VE]
 -- the three tables
 have f0:=wW (n:=nd) hm hf;have l0:=rU nd ns.length ps;have f1:=uQ (n:=nd) (N:=aJ (fw nd ns.length ps) back) hm f0;have l1:=rR nd ns.length (aJ (fw nd ns.length ps) back) (fw nd ns.length ps);have o0:∀ j,j<ns.length->∀ i,i<n->(aJ (fw nd ns.length ps) i).testBit j=(aJ ps i).testBit j:=λj hj i hi=>Hm hm (by omega) (by omega) hf i (by omega);have z0:(aJ (fw nd ns.length ps) back).testBit ns.length=lJ nd.op:=by rw[Cn _ _ _ _ (by omega),um (hf _).2 hm hm,aBU rfl]
 have t0:∀ i,jb (fw nd ns.length ps) i=jb ps i:=Ep _ _ _;have x1:=λi (hi:i<n)=>JH (n:=nd) (N:=aJ (fw nd ns.length ps) back) hm f0 i (by omega);have o1:∀ j,j<ns.length->∀ i,i<n->(aJ (dL nd ns.length (aJ (fw nd ns.length ps) back) (fw nd ns.length ps)).1 i).testBit j=(aJ ps i).testBit j:=λj hj i hi=>(uP hm (by omega) (by omega) f0 i (by omega)).trans (o0 j hj i hi);have t1:∀ i,jb (dL nd ns.length (aJ (fw nd ns.length ps) back) (fw nd ns.length ps)).1 i=jb ps i:=λi=>(wV _ _ _ _ i).trans (t0 i);have ef:uT nd ns.length back ps=(dL nd ns.length (aJ (dL nd ns.length (aJ (fw nd ns.length ps) back) (fw nd ns.length ps)).1 back) (dL nd ns.length (aJ (fw nd ns.length ps) back) (fw nd ns.length ps)).1).1:=rfl;rw[ef];generalize fw nd ns.length ps=p0 at *;generalize (dL nd ns.length (aJ p0 back) p0).1=p1 at *;have x2:=λi (hi:i<n)=>JH (n:=nd) (N:=aJ p1 back) hm f1 i (by omega);have o2:∀ j,j<ns.length->∀ i,i<n->(aJ (dL nd ns.length (aJ p1 back) p1).1 i).testBit j=(aJ ps i).testBit j:=λj hj i hi=>(uP hm (by omega) (by omega) f1 i (by omega)).trans (o1 j hj i hi);generalize (dL nd ns.length (aJ p1 back) p1).1=p2 at *;rw[l0]at l1 x1;rw[l1]at x2;rw[hlen]at x1 x2
 -- the rows below
 have B:∀ j,j<ns.length->∀ i,i<n->((aJ ps i).testBit j=true↔(rows (aU n back) lt ns).getD j (λ_=>False) i):=λj hj i hi=>YG i hi j hj;have N2:∀ j,j<ns.length->∀ i,i<n->(if i+1<n then aJ p2 (i+1) else aJ p1 back).testBit j=(aJ ps (aU n back i)).testBit j:=by
  intro j hj i hi;unfold aU
  split
  ·exact o2 j hj _ (by omega)
  ·exact o1 j hj _ hb
 have hL:=Rn (i:=i) hb;unfold kZ;rcases hop with hop | hop | hop
 ·rcases lD hop with e | e | e | e | e
  ·simp[e]at x2 ⊢;rw[x2 i hi];simp[bi]
  ·simp[e]at x2 ⊢;rw[x2 i hi];simp[bi]
  ·simp[e]at x2 ⊢;rw[x2 i hi,t1,Yy i hi];simp[bi]
  ·simp[e]at x2 ⊢;rw[x2 i hi,t1,Yy i hi];simp[bi]
  ·simp[e]at x2 ⊢;rw[x2 i hi,t1,Yy i hi];simp[bi]
 ·have hl:=hw1 (jN hop);rcases nu hop with e | e | e | e
  ·simp only[e]at x2 ⊢;rw[x2 i hi,o1 _ hl i hi];simp[bi,<-B _ hl i hi]
  ·simp only[e]at x2 ⊢;rw[x2 i hi,N2 _ hl i hi];simp[bi,<-B _ hl _ hL]
  ·-- F
   have key:=uO hb (λ_=>true) (λi=>(aJ ps i).testBit nd.l) (λi=>(aJ p1 i).testBit ns.length) (λi=>(aJ p2 i).testBit ns.length)
    (λi hi=>by
     have:=x1 i hi;rw[e,o0 _ hl i hi]at this;simp only[bi]at this;simp only[Nat.reduceEqDiff,if_false,if_true]at this;rw[this]
     split
     ·simp
     ·rw[z0,e];simp[lJ])
    (λi hi=>by
     have:=x2 i hi;rw[e,o1 _ hl i hi]at this;simp only[bi]at this;simp only[Nat.reduceEqDiff,if_false,if_true]at this;rw[this]
     split <;> simp) i hi
   simp only[e,Nat.reduceEqDiff,if_false,if_true];rw[key];unfold UU;constructor
   ·rintro ⟨s,h1,_⟩;exact⟨s,(B _ hl _ (kL hb s i hi)).1 h1⟩
   ·rintro ⟨s,h1⟩;exact⟨s,(B _ hl _ (kL hb s i hi)).2 h1,λ_ _=>rfl⟩
  ·-- G
   have key:=uO hb (λ_=>true) (λi=>!(aJ ps i).testBit nd.l) (λi=>!(aJ p1 i).testBit ns.length) (λi=>!(aJ p2 i).testBit ns.length)
    (λi hi=>by
     have:=x1 i hi;rw[e,o0 _ hl i hi]at this;simp only[bi]at this;simp only[Nat.reduceEqDiff,if_false,if_true]at this;rw[this]
     split
     ·simp
     ·rw[z0,e];simp[lJ])
    (λi hi=>by
     have:=x2 i hi;rw[e,o1 _ hl i hi]at this;simp only[bi]at this;simp only[Nat.reduceEqDiff,if_false,if_true]at this;rw[this]
     split <;> simp) i hi
   simp only[e,Nat.reduceEqDiff,if_false,if_true];have Jd:(aJ p2 i).testBit ns.length=true↔¬ UU (aU n back) (λ_=>true=true) (λi=>(!(aJ ps i).testBit nd.l)=true) i:=by
    rw[<-key];simp
   rw[Jd];unfold UU;constructor
   ·intro h s;rw[<-B _ hl _ (kL hb s i hi)];cases hc:(aJ ps (it (aU n back) s i)).testBit nd.l with
    | true=>rfl
    | false=>exact absurd ⟨s,by simp[hc],λ_ _=>rfl⟩ h
   ·rintro h ⟨s,h1,_⟩;have:=(B _ hl _ (kL hb s i hi)).2 (h s);simp[this]at h1
 ·have hl:=hw1 (l8 hop);have hr:=hw2 hop;rcases ky hop with e | e | e | e
  ·simp only[e]at x2 ⊢;rw[x2 i hi,o1 _ hl i hi,o1 _ hr i hi];simp[bi,<-B _ hl i hi,<-B _ hr i hi]
  ·simp only[e]at x2 ⊢;rw[x2 i hi,o1 _ hl i hi,o1 _ hr i hi];simp[bi,<-B _ hl i hi,<-B _ hr i hi]
  ·-- U
   have key:=uO hb (λi=>(aJ ps i).testBit nd.l) (λi=>(aJ ps i).testBit nd.r) (λi=>(aJ p1 i).testBit ns.length) (λi=>(aJ p2 i).testBit ns.length)
    (λi hi=>by
     have:=x1 i hi;rw[e,o0 _ hl i hi,o0 _ hr i hi]at this;simp only[bi]at this;simp only[Nat.reduceEqDiff,if_false,if_true]at this;rw[this]
     split
     ·rfl
     ·rw[z0,e];simp[lJ])
    (λi hi=>by
     have:=x2 i hi;rw[e,o1 _ hl i hi,o1 _ hr i hi]at this;simp only[bi]at this;simp only[Nat.reduceEqDiff,if_false,if_true]at this;rw[this]
     split <;> rfl) i hi
   simp only[e,Nat.reduceEqDiff,if_false,if_true];rw[key];unfold UU;constructor
   ·rintro ⟨s,h1,h2⟩;exact⟨s,(B _ hr _ (kL hb s i hi)).1 h1,λm hm=>(B _ hl _ (kL hb m i hi)).1 (h2 m hm)⟩
   ·rintro ⟨s,h1,h2⟩;exact⟨s,(B _ hr _ (kL hb s i hi)).2 h1,λm hm=>(B _ hl _ (kL hb m i hi)).2 (h2 m hm)⟩
  ·-- R
   have key:=uO hb (λi=>!(aJ ps i).testBit nd.l) (λi=>!(aJ ps i).testBit nd.r) (λi=>!(aJ p1 i).testBit ns.length) (λi=>!(aJ p2 i).testBit ns.length)
    (λi hi=>by
     have:=x1 i hi;rw[e,o0 _ hl i hi,o0 _ hr i hi]at this;simp only[bi]at this;simp only[Nat.reduceEqDiff,if_false,if_true]at this;rw[this]
     split
     ·simp
     ·rw[z0,e];simp[lJ])
    (λi hi=>by
     have:=x2 i hi;rw[e,o1 _ hl i hi,o1 _ hr i hi]at this;simp only[bi]at this;simp only[Nat.reduceEqDiff,if_false,if_true]at this;rw[this]
     split <;> simp) i hi
   simp only[e,Nat.reduceEqDiff,if_false,if_true];have Jd:(aJ p2 i).testBit ns.length=true↔¬ UU (aU n back) (λi=>(!(aJ ps i).testBit nd.l)=true) (λi=>(!(aJ ps i).testBit nd.r)=true) i:=by
    rw[<-key];simp
   rw[Jd];unfold UU;constructor
   ·intro h s;cases hc:(aJ ps (it (aU n back) s i)).testBit nd.r with
    | true=>exact aA2 ((B _ hr _ (kL hb s i hi)).1 hc)
    | false=>
     refine aA3 ?_;refine aBp λhn=>h ⟨s,by simp[hc],λm hm=>?_⟩;cases hd:(aJ ps (it (aU n back) m i)).testBit nd.l with
     | false=>simp[hd]
     | true=>exact absurd ⟨m,hm,(B _ hl _ (kL hb m i hi)).1 hd⟩ hn
   ·rintro h ⟨s,h1,h2⟩;rcases h s with h3 | ⟨m,hm,h3⟩
    ·have:=(B _ hr _ (kL hb s i hi)).2 h3;simp[this]at h1
    ·have h4:=h2 m hm;have:=(B _ hl _ (kL hb m i hi)).2 h3;simp[this]at h4
def gZ(ns:List Nd):Prop:=∀ (i:Nat) (n:Nd),ns[i]?=some n->(bF n.op=true/\n.l=0/\n.r=0)\/(dY n.op=true/\n.l<i/\n.r=0)\/(bQ n.op=true/\n.l<i/\n.r<i)
theorem gZ.snoc{ns:List Nd}(h:gZ ns)(n:Nd)(hn:(bF n.op=true/\n.l=0/\n.r=0)\/(dY n.op=true/\n.l<ns.length/\n.r=0)\/(bQ n.op=true/\n.l<ns.length/\n.r<ns.length)):gZ (ns++[n]):=by
 intro i m hm;by_cases hi:i<ns.length
 ·rw[aA9 hi]at hm;exact h i m hm
 ·rw[aBa (by omega)]at hm;have:i=ns.length:=by
   have:=(aA1.1 hm).1;simp at this;omega
  subst this;simp at hm;subst hm;exact hn
theorem JU:∀ (k:Nat) (s:ByteArray) (a:Nat) (ns:List Nd) (a':Nat) (d9:List Nd),ps k s a ns=some (a',d9)->gZ ns->gZ d9/\∃ ms,d9=ns++ms
 | 0,_,_,_,_,_,h,_=>by simp[ps]at h
 | k+1,s,a,ns,a',d9,h,hw=>by
  by_cases b1:bF (bt s a)=true
  ·rw[nK b1]at h;simp only[aBu,aBH]at h;obtain⟨rfl,rfl⟩:=h;exact⟨hw.snoc _ (aA2 ⟨b1,rfl,rfl⟩),_,rfl⟩
  ·rw[Bool.not_eq_true]at b1;by_cases b2:dY (bt s a)=true
   ·rw[rW b2]at h;unfold ve at h;cases e:ps k s (a+1) ns with
    | none=>rw[e]at h;simp at h
    | some x=>
     obtain⟨a1,n1⟩:=x;rw[e]at h;simp only[aBu,aBH]at h;obtain⟨rfl,rfl⟩:=h;have g:=eU k s _ _ _ _ e;obtain⟨h1,ms,h2⟩:=JU k s _ _ _ _ e hw;exact⟨h1.snoc _ (aA3 (aA2 ⟨b2,by simp only;omega,rfl⟩)),_,by rw[h2,List.append_assoc]⟩
   ·rw[Bool.not_eq_true]at b2;by_cases b3:bt s a=40
    ·rw[oK b3]at h;unfold ps2 at h;cases e:ps k s (a+1) ns with
     | none=>rw[e]at h;simp at h
     | some x=>
      obtain⟨a1,n1⟩:=x;rw[e]at h;simp only at h;by_cases b4:bQ (bt s a1)=true
      ·rw[aBU b4]at h;cases e2:ps k s (a1+1) n1 with
       | none=>rw[e2]at h;simp at h
       | some x=>
        obtain⟨a2,n2⟩:=x;rw[e2]at h;simp only at h;by_cases b5:bt s a2=41
        ·rw[aBU b5]at h;simp only[aBu,aBH]at h;obtain⟨rfl,rfl⟩:=h;have g1:=eU k s _ _ _ _ e;have g2:=eU k s _ _ _ _ e2;obtain⟨h1,ms1,q1⟩:=JU k s _ _ _ _ e hw;obtain⟨h2,ms2,q2⟩:=JU k s _ _ _ _ e2 h1;exact⟨h2.snoc _ (aA3 (aA3 ⟨b4,by simp only;omega,by simp only;omega⟩)),_,by rw[q2,q1,List.append_assoc,List.append_assoc]⟩
        ·rw[aBT b5]at h;simp at h
      ·rw[aBT b4]at h;simp at h
    ·rw[GA b1 b2 b3]at h;simp at h
structure Good (ns:List Nd):Prop where
 pos:0<ns.length
 le:ns.length<=8
 wf:gZ ns
theorem pF{s:ByteArray}(h:(aB s).1=0):Good (aB s).2:=by
 unfold aB at h ⊢
 split at h
 ·simp at h
 ·rename_i h1;rw[aBT h1];cases e:ps 25 s 0 [] with
  | none=>rw[e]at h;simp at h
  | some x=>
   obtain⟨a,ns⟩:=x;rw[e]at h;simp only at h ⊢
   split at h
   ·rename_i h2;rw[aBU h2]
    split at h
    ·simp at h
    ·rename_i h3;rw[aBT h3];have g:=eU _ _ _ _ _ _ e;have w:=(JU _ _ _ _ _ _ e (by intro i n h;simp at h)).1;have g2:=g.2.2.2;simp at g2;exact⟨g2,Nat.not_lt.1 h3,w⟩
   ·simp at h
theorem gZ.small{ns:List Nd}(h:gZ ns)(hl:ns.length<=8){i:Nat}{n:Nd}(hn:ns[i]?=some n):n.l<8/\n.r<8:=by
 have hi:=(aA1.1 hn).1;rcases h i n hn with⟨_,h1,h2⟩ | ⟨_,h1,h2⟩ | ⟨_,h1,h2⟩ <;> omega
def aA(ns:List Nd)(k:Nat):Nd:=ns.getD k ⟨0,0,0⟩
def XB(back:Nat)(ns:List Nd)(ps:List (Nat × Nat)):Nat->List (Nat × Nat)
 | 0=>ps
 | k+1=>uT (aA ns k) k back (XB back ns ps k)
theorem UZ{back:Nat}{ns:List Nd}{ps:List (Nat × Nat)}{lt:Nat->Nat}(hb:back<ps.length)(hf:tC ps)(hl:∀ i,i<ps.length->jb ps i=lt i)(hg:gZ ns)(h8:ns.length<=8)(k:Nat)(hk:k<=ns.length) :
  YX ps.length back lt (ns.take k) (XB back ns ps k):=by
 induction k with
 | zero=>exact⟨rfl,hf,hl,λi hi j hj=>by simp at hj⟩
 | succ k ih=>
  have h1:=ih (by omega);have e:ns.take (k+1)=ns.take k++[aA ns k]:=by
   rw[List.take_succ_eq_append_getElem (by omega)];simp[aA,List.getD,aAV (show k<ns.length by omega)]
  have hn:ns[k]?=some (aA ns k):=by simp[aA,List.getD,aAV (show k<ns.length by omega)]
  have hlen:(ns.take k).length=k:=by simp;omega
  rw[e];have key:=XA hb h1 (aA ns k) (by omega);rw[hlen]at key;refine key ?_ ?_ ?_
  ·intro h2;rcases hg k _ hn with⟨h3,_⟩ | ⟨_,h3,_⟩ | ⟨_,h3,_⟩
   ·rw[h2]at h3;simp at h3
   ·exact h3
   ·exact h3
  ·intro h2;rcases hg k _ hn with⟨h3,_⟩ | ⟨h3,_⟩ | ⟨_,_,h3⟩
   ·rw[sw h3]at h2;simp at h2
   ·rw[kQ h3]at h2;simp at h2
   ·exact h3
  ·rcases hg k _ hn with⟨h3,_⟩ | ⟨h3,_⟩ | ⟨h3,_⟩
   ·exact aA2 h3
   ·exact aA3 (aA2 h3)
   ·exact aA3 (aA3 h3)
def yu(back:Nat)(ns:List Nd)(xs:List Nat):Bool:=(aJ (XB back ns (xs.map λx=>(x,0)) ns.length) 0).testBit (ns.length - 1)
def ltOf(xs:List Nat)(i:Nat):Nat:=xs.getD i 0
theorem CQ{back:Nat}{ns:List Nd}{xs:List Nat}(hg:Good ns)(hb:back<xs.length)(hx:∀ x∈xs,x<8):yu back ns xs=true↔fA (aU xs.length back) (ltOf xs) ns (ns.length - 1) 0:=by
 have hf:tC (xs.map λx=>(x,0)):=aio (by intro p hp;simp at hp;obtain⟨x,hm,rfl⟩:=hp;exact⟨hx x hm,by show 0<256;decide⟩);have ht:=UZ (back:=back) (ns:=ns) (ps:=xs.map λx=>(x,0)) (lt:=ltOf xs) (by simpa using hb) hf (by
  intro i hi;simp at hi;simp[jb,ltOf,List.getD,aAV hi]) hg.wf hg.le ns.length (aAU _)
 rw[List.take_length,aBG]at ht;have:=ht.2.2.2 0 (by omega) (ns.length - 1) (by have:=hg.pos;omega);exact this
