import Derived.RowKit
import Derived.Test.YtjagijohfkffiabGreatRows
import Derived.WalkKit
import Derived.WalkSmall
import Derived.BigQuiet
import Derived.WalkSpells
import Derived.Deep.WholeRow
import Derived.Laws.CopyRow
set_option maxHeartbeats 16000000
set_option maxRecDepth 100000
namespace Go.Proofs.YtjagijohfkffiabGreat
structure Nd where
 op:Nat
 l:Nat
 r:Nat
def bt (s:ByteArray) (i:Nat):Nat:=if h:i<s.size then (s[i]'h).toNat else 0
theorem fJ {s:ByteArray} {i:Nat} (h:i<s.size):bt s i=(s[i]'h).toNat:=by simp [bt,h]
theorem Ch {s:ByteArray} {i:Nat} (h:¬ i<s.size):bt s i=0:=by simp [bt,h]
theorem iV {s:ByteArray} {i:Nat} (h:bt s i≠0):i<s.size:=by
 by_cases k:i<s.size
 ·exact k
 ·exact absurd (Ch k) h
theorem oq (s:ByteArray) (i:Nat):bt s i<256:=by
 by_cases k:i<s.size
 ·rw [fJ k];exact UInt8.toNat_lt _
 ·rw [Ch k];omega
def aP (b:Nat):Bool:=b==48||b==49||b==112||b==113||b==114
def dB (b:Nat):Bool:=b==33||b==88||b==70||b==71
def bz (b:Nat):Bool:=b==38||b==124||b==85||b==82
def ps:Nat→ByteArray→Nat→List Nd→Option (Nat × List Nd)
 | 0,_,_,_=>none
 | k+1,s,a,ns=>
  if aP (bt s a) then some (a+1,ns++[⟨bt s a,0,0⟩])
  else if dB (bt s a) then
   match ps k s (a+1) ns with
   | none=>none
   | some (a1,n1)=>some (a1,n1++[⟨bt s a,n1.length - 1,0⟩])
  else if bt s a=40 then
   match ps k s (a+1) ns with
   | none=>none
   | some (a1,n1)=>
    if bz (bt s a1) then
     match ps k s (a1+1) n1 with
     | none=>none
     | some (a2,n2)=>if bt s a2=41 then some (a2+1,n2++[⟨bt s a1,n1.length - 1,n2.length - 1⟩]) else none
    else none
  else none
def ps2 (k:Nat) (s:ByteArray) (a:Nat) (ns:List Nd):Option (Nat × List Nd):=
 match ps k s a ns with
 | none=>none
 | some (a1,n1)=>
  if bz (bt s a1) then
   match ps k s (a1+1) n1 with
   | none=>none
   | some (a2,n2)=>if bt s a2=41 then some (a2+1,n2++[⟨bt s a1,n1.length - 1,n2.length - 1⟩]) else none
  else none
def tY (op:Nat) (k:Nat) (s:ByteArray) (a:Nat) (ns:List Nd):Option (Nat × List Nd):=
 match ps k s a ns with
 | none=>none
 | some (a1,n1)=>some (a1,n1++[⟨op,n1.length - 1,0⟩])
theorem nA {k:Nat} {s:ByteArray} {a:Nat} {ns:List Nd} (h:aP (bt s a)=true):ps (k+1) s a ns=some (a+1,ns++[⟨bt s a,0,0⟩]):=by
 simp [ps,h]
theorem jw {b:Nat} (h:dB b=true):aP b=false:=by
 simp only [dB,Bool.or_eq_true,beq_iff_eq] at h
 rcases h with ((h | h) | h) | h <;> subst h <;> decide
theorem qY {k:Nat} {s:ByteArray} {a:Nat} {ns:List Nd} (h:dB (bt s a)=true):ps (k+1) s a ns=tY (bt s a) k s (a+1) ns:=by
 simp [ps,h,jw h,tY]
theorem nS {k:Nat} {s:ByteArray} {a:Nat} {ns:List Nd} (h:bt s a=40):ps (k+1) s a ns=ps2 k s (a+1) ns:=by
 simp [ps,h,ps2,aP,dB]
theorem CL {k:Nat} {s:ByteArray} {a:Nat} {ns:List Nd} (h1:aP (bt s a)=false) (h2:dB (bt s a)=false) (h3:¬ bt s a=40):ps (k+1) s a ns=none:=by
 simp [ps,h1,h2,h3]
theorem QR {b:Nat} (h:aP b=true):b≠0:=by intro e;subst e;revert h;decide
theorem ad5 {b:Nat} (h:dB b=true):b≠0:=by intro e;subst e;revert h;decide
theorem yA {b:Nat} (h:bz b=true):b≠0:=by intro e;subst e;revert h;decide
theorem dJ:∀ (k:Nat) (s:ByteArray) (a:Nat) (ns:List Nd) (a':Nat) (ns':List Nd),ps k s a ns=some (a',ns') →
  a<a'∧a'≤s.size∧ns'.length+a≤ns.length+a'∧ns.length<ns'.length
 | 0,_,_,_,_,_,h=>by simp [ps] at h
 | k+1,s,a,ns,a',ns',h=>by
  by_cases b1:aP (bt s a)=true
  ·rw [nA b1] at h
   simp only [Option.some.injEq,Prod.mk.injEq] at h
   obtain ⟨rfl,rfl⟩:=h
   have:=iV (QR b1)
   simp;omega
  ·rw [Bool.not_eq_true] at b1
   by_cases b2:dB (bt s a)=true
   ·rw [qY b2] at h
    unfold tY at h
    cases e:ps k s (a+1) ns with
    | none=>rw [e] at h;simp at h
    | some x=>
     obtain ⟨a1,n1⟩:=x
     rw [e] at h
     simp only [Option.some.injEq,Prod.mk.injEq] at h
     obtain ⟨rfl,rfl⟩:=h
     have:=dJ k s _ _ _ _ e
     simp;omega
   ·rw [Bool.not_eq_true] at b2
    by_cases b3:bt s a=40
    ·rw [nS b3] at h
     unfold ps2 at h
     cases e:ps k s (a+1) ns with
     | none=>rw [e] at h;simp at h
     | some x=>
      obtain ⟨a1,n1⟩:=x
      rw [e] at h
      simp only at h
      by_cases b4:bz (bt s a1)=true
      ·rw [if_pos b4] at h
       cases e2:ps k s (a1+1) n1 with
       | none=>rw [e2] at h;simp at h
       | some x=>
        obtain ⟨a2,n2⟩:=x
        rw [e2] at h
        simp only at h
        by_cases b5:bt s a2=41
        ·rw [if_pos b5] at h
         simp only [Option.some.injEq,Prod.mk.injEq] at h
         obtain ⟨rfl,rfl⟩:=h
         have g1:=dJ k s _ _ _ _ e
         have g2:=dJ k s _ _ _ _ e2
         have:=iV (s:=s) (i:=a2) (by omega)
         simp;omega
        ·rw [if_neg b5] at h;simp at h
      ·rw [if_neg b4] at h;simp at h
    ·rw [CL b1 b2 b3] at h;simp at h
def Wf (ns:List Nd):Prop:=∀ (i:Nat) (n:Nd),ns[i]?=some n→(aP n.op=false→n.l<i)∧(bz n.op=true→n.r<i)
theorem Wf.snoc {ns:List Nd} (h:Wf ns) (n:Nd) (h1:aP n.op=false→n.l<ns.length) (h2:bz n.op=true→n.r<ns.length):Wf (ns++[n]):=by
 intro i m hm
 by_cases hi:i<ns.length
 ·rw [List.getElem?_append_left hi] at hm
  exact h i m hm
 ·rw [List.getElem?_append_right (by omega)] at hm
  have:i=ns.length:=by
   have:=(List.getElem?_eq_some_iff.1 hm).1
   simp at this;omega
  subst this
  simp at hm
  subst hm
  exact ⟨h1,h2⟩
theorem adH:Wf []:=by intro i n h;simp at h
theorem jX {b:Nat} (h:dB b=true):bz b=false:=by
 simp only [dB,Bool.or_eq_true,beq_iff_eq] at h
 rcases h with ((h | h) | h) | h <;> subst h <;> decide
theorem ru {b:Nat} (h:aP b=true):bz b=false:=by
 simp only [aP,Bool.or_eq_true,beq_iff_eq] at h
 rcases h with (((h | h) | h) | h) | h <;> subst h <;> decide
theorem lG {b:Nat} (h:bz b=true):aP b=false:=by
 simp only [bz,Bool.or_eq_true,beq_iff_eq] at h
 rcases h with ((h | h) | h) | h <;> subst h <;> decide
theorem kV {b:Nat} (h:aP b=true):b=48∨b=49∨b=112∨b=113∨b=114:=by
 simpa [aP,or_assoc] using h
theorem mR {b:Nat} (h:dB b=true):b=33∨b=88∨b=70∨b=71:=by
 simpa [dB,or_assoc] using h
theorem jL {b:Nat} (h:bz b=true):b=38∨b=124∨b=85∨b=82:=by
 simpa [bz,or_assoc] using h
def flat (ns:List Nd):List Value:=ns.flatMap fun n=>[.int .u8 n.op,.int .i64 n.l,.int .i64 n.r]
theorem Xc (ns:List Nd) (n:Nd):flat (ns++[n])=flat ns++[.int .u8 n.op,.int .i64 n.l,.int .i64 n.r]:=by simp [flat]
def lC (s:ByteArray):Nat→Nat
 | 0=>0
 | k+1=>lC s k+if bt s k=40∨bt s k=41 then 0 else 1
theorem aax (s:ByteArray) (k:Nat):lC s k≤k:=by
 induction k with
 | zero=>exact Nat.le_refl _
 | succ k ih=>unfold lC;split <;> omega
theorem Gl {s:ByteArray} {k:Nat} (h:bt s k≠40) (h2:bt s k≠41):lC s (k+1)=lC s k+1:=by
 simp only [lC];rw [if_neg (by omega)]
theorem CW {s:ByteArray} {k:Nat} (h:bt s k=40∨bt s k=41):lC s (k+1)=lC s k:=by
 simp only [lC];rw [if_pos h];rfl
theorem FH:∀ (k:Nat) (s:ByteArray) (a:Nat) (ns:List Nd) (a':Nat) (ns':List Nd),ps k s a ns=some (a',ns')→ns'.length+lC s a=ns.length+lC s a'
 | 0,_,_,_,_,_,h=>by simp [ps] at h
 | k+1,s,a,ns,a',ns',h=>by
  by_cases b1:aP (bt s a)=true
  ·rw [nA b1] at h
   simp only [Option.some.injEq,Prod.mk.injEq] at h
   obtain ⟨rfl,rfl⟩:=h
   have:=kV b1
   rw [Gl (by omega) (by omega)]
   simp;omega
  ·rw [Bool.not_eq_true] at b1
   by_cases b2:dB (bt s a)=true
   ·rw [qY b2] at h
    unfold tY at h
    cases e:ps k s (a+1) ns with
    | none=>rw [e] at h;simp at h
    | some x=>
     obtain ⟨a1,n1⟩:=x
     rw [e] at h
     simp only [Option.some.injEq,Prod.mk.injEq] at h
     obtain ⟨rfl,rfl⟩:=h
     have g:=FH k s _ _ _ _ e
     have:=mR b2
     rw [Gl (by omega) (by omega)] at g
     simp;omega
   ·rw [Bool.not_eq_true] at b2
    by_cases b3:bt s a=40
    ·rw [nS b3] at h
     unfold ps2 at h
     cases e:ps k s (a+1) ns with
     | none=>rw [e] at h;simp at h
     | some x=>
      obtain ⟨a1,n1⟩:=x
      rw [e] at h
      simp only at h
      by_cases b4:bz (bt s a1)=true
      ·rw [if_pos b4] at h
       cases e2:ps k s (a1+1) n1 with
       | none=>rw [e2] at h;simp at h
       | some x=>
        obtain ⟨a2,n2⟩:=x
        rw [e2] at h
        simp only at h
        by_cases b5:bt s a2=41
        ·rw [if_pos b5] at h
         simp only [Option.some.injEq,Prod.mk.injEq] at h
         obtain ⟨rfl,rfl⟩:=h
         have g1:=FH k s _ _ _ _ e
         have g2:=FH k s _ _ _ _ e2
         have:=jL b4
         rw [CW (Or.inl b3)] at g1
         rw [Gl (by omega) (by omega)] at g2
         rw [CW (Or.inr b5)]
         simp;omega
        ·rw [if_neg b5] at h;simp at h
      ·rw [if_neg b4] at h;simp at h
    ·rw [CL b1 b2 b3] at h;simp at h
def af (s:ByteArray):Nat × List Nd:=
 if 24<s.size then (1,[]) else
 match ps 25 s 0 [] with
 | none=>(2,[])
 | some (a,ns)=>if a=s.size then (if 8<ns.length then (3,[]) else (0,ns)) else (2,[])
open Go.RowKit
set_option linter.unusedVariables false
theorem Tryz.ZW:(Tryz.prog.info? 109).map (fun i=>(i.zero,i.size,i.bytes))=some (some (.agg #[.int .u8 0,.int .i64 0,.int .i64 0]),3,24):=by kernel_rfl
theorem hid {p:Prop} (h:p):Hid p:=h
theorem IZ (w:World) (a b c:Value) (t:TypeId):∀ j u,[a,b,c][j]?=some u→(w.alloc (.cells #[a,b,c] t)).cell? ((⟨w.heap.size,0,none⟩:Addr).add j)=some u:=by
 intro j u hj
 match j,hj with
 | 0,hj=>simp at hj;subst hj;simp [Addr.add]
 | 1,hj=>simp at hj;subst hj;simp [Addr.add]
 | 2,hj=>simp at hj;subst hj;simp [Addr.add]
 | j+3,hj=>simp at hj
theorem aY {w:World} {B B':Nat} {e:TypeId} {size:Nat} {v:Value} {n:Nat} {xs:List Value} (h:w.ownsRow B e size v n xs) (hb:B'≤B):w.ownsRow B' e size v n xs:=by
 obtain ⟨h1,h2⟩:=h
 rcases h2 with h2 | ⟨g,cap,cur,a,b,r⟩
 ·exact ⟨h1,Or.inl h2⟩
 ·exact ⟨h1,Or.inr ⟨g,cap,cur,a,Nat.le_trans hb b,r⟩⟩
structure Rd (w:World) (R:Nat) (s:ByteArray) (a:Nat) (ns:List Nd):Prop where
 c0:w.cell? ⟨R,0,none⟩=some (.string s)
 c1:w.cell? ⟨R,1,none⟩=some (.int .i64 a)
 c2:∃ ao cap,w.cell? ⟨R,2,none⟩=some (.slice ao ns.length cap)∧w.ownsRow (R+1) 109 3 (.slice ao ns.length cap) ns.length (flat ns)
 f1:w.frozen? ⟨R,1,none⟩=false
 f2:w.frozen? ⟨R,2,none⟩=false
theorem Rd.lt {w:World} {R:Nat} {s:ByteArray} {a:Nat} {ns:List Nd} (h:Rd w R s a ns):R<w.heap.size:=World.block_lt_of_cell? w ⟨R,0,none⟩ h.c0
theorem Rd.drewN {w:World} {R:Nat} {s:ByteArray} {a:Nat} {ns:List Nd} (h:Rd w R s a ns) (m:Nat):Rd (w.drewN m) R s a ns:=
 ⟨h.c0,h.c1,h.c2,h.f1,h.f2⟩
theorem Rd.moved {w:World} {R:Nat} {s:ByteArray} {a:Nat} {ns:List Nd} (h:Rd w R s a ns) (b:Nat):Rd (w.setCell ⟨R,1,none⟩ (.int .i64 b)) R s b ns:=by
 obtain ⟨ao,cap,hc,ho⟩:=h.c2
 refine ⟨?_,?_,⟨ao,cap,?_,?_⟩,?_,?_⟩
 ·rw [World.cell?_setCell_other _ _ _ _ (by simp)];exact h.c0
 ·exact World.cell?_setCell_same _ _ _ h.c1
 ·rw [World.cell?_setCell_other _ _ _ _ (by simp)];exact hc
 ·exact ownsRow_setCell_below ho (by simp) _
 ·rw [World.frozen?_setCell];exact h.f1
 ·rw [World.frozen?_setCell];exact h.f2
theorem Rd.pushed {w w':World} {R:Nat} {s:ByteArray} {a:Nat} {ns:List Nd} (h:Rd w R s a ns) (hb:Below (R+1) w w') (ms:List Nd) (ao:Option Addr) (cap:Nat)
  (ho:w'.ownsRow (R+1) 109 3 (.slice ao ms.length cap) ms.length (flat ms)):Rd (w'.setCell ⟨R,2,none⟩ (.slice ao ms.length cap)) R s a ms:=by
 have hR:R<R+1:=Nat.lt_succ_self _
 obtain ⟨_,_,hc,_⟩:=h.c2
 refine ⟨?_,?_,⟨ao,cap,?_,?_⟩,?_,?_⟩
 ·rw [World.cell?_setCell_other _ _ _ _ (by simp),hb.cell hR];exact h.c0
 ·rw [World.cell?_setCell_other _ _ _ _ (by simp),hb.cell hR];exact h.c1
 ·exact World.cell?_setCell_same _ _ _ ((hb.cell (p:=⟨R,2,none⟩) hR).trans hc)
 ·exact ownsRow_setCell_below ho (by simp) _
 ·rw [World.frozen?_setCell,hb.frozen hR];exact h.f1
 ·rw [World.frozen?_setCell,hb.frozen hR];exact h.f2
theorem ab4 (R a:Nat) (s:ByteArray) (ns:List Nd) (w:World) (hs:s.size≤24) (hlt:a<s.size) (hr:Rd w R s a ns) :
  Calls Tryz.prog 110 #[.pointer (some ⟨R,0,none⟩)] w fun e w'=>e=.returned (.int .u8 (bt s a))∧Rd w' R s (a+1) ns∧Below R w w':=by
 have c0:=hr.c0
 have c1:=hr.c1
 have f1:=hr.f1
 have hd:decide ((a:Int)<0)=false:=by simp
 have hd2:decide ((s.size:Int)≤(a:Int))=false:=by simp;omega
 go_enter Tryz.func110,Tryz.ntmps110
 go_wp2
 go_quiet (fail)
 go_wp2
 go_quiet (fail)
 go_wp2
 go_ret
 refine ⟨by rw [fJ hlt];rfl,?_,?_⟩
 ·exact (hr.drewN _).moved (a+1)
 ·exact (below_drewN (Below.refl R w) _).setCell (p:=⟨R,1,none⟩) (Nat.le_refl _) _
theorem YP (R a:Nat) (s:ByteArray) (ns:List Nd) (w:World) (hs:s.size≤24) (hlt:¬ a<s.size) (ha:a≤s.size) (hr:Rd w R s a ns) :
  Calls Tryz.prog 110 #[.pointer (some ⟨R,0,none⟩)] w fun e w'=>e=.returned (.int .u8 (bt s a))∧Rd w' R s a ns∧Below R w w':=by
 have c0:=hr.c0
 have c1:=hr.c1
 have f1:=hr.f1
 have hd:decide ((a:Int)<0)=false:=by simp
 have hd2:decide ((s.size:Int)≤(a:Int))=true:=by simp;omega
 go_enter Tryz.func110,Tryz.ntmps110
 go_wp2
 go_quiet (fail)
 go_wp2
 go_ret
 refine ⟨by rw [Ch hlt];rfl,hr.drewN _,below_drewN (Below.refl _ _) _⟩
def mV (s:ByteArray) (a:Nat):Nat:=if a<s.size then a+1 else a
theorem qa (R a:Nat) (s:ByteArray) (ns:List Nd) (w:World) (hs:s.size≤24) (ha:a≤s.size) (hr:Rd w R s a ns) :
  Calls Tryz.prog 110 #[.pointer (some ⟨R,0,none⟩)] w fun e w'=>e=.returned (.int .u8 (bt s a))∧Rd w' R s (mV s a) ns∧Below R w w':=by
 unfold mV
 by_cases h:a<s.size
 ·rw [if_pos h];exact ab4 R a s ns w hs h hr
 ·rw [if_neg h];exact YP R a s ns w hs h ha hr
theorem sW (R a:Nat) (op l r:Int) (s:ByteArray) (ns:List Nd) (w:World) (hn:ns.length≤1000) (ho:0≤op) (hl:0≤l) (hr0:0≤r) (hr:Rd w R s a ns) :
  Calls Tryz.prog 111 #[.pointer (some ⟨R,0,none⟩),.int .u8 op,.int .i64 l,.int .i64 r] w fun e w'=>e=.returned (.tuple #[])∧Rd w' R s a (ns++[⟨op.toNat,l.toNat,r.toNat⟩])∧Below R w w':=by
 obtain ⟨on,rfl⟩:=Int.eq_ofNat_of_zero_le ho
 obtain ⟨ln,rfl⟩:=Int.eq_ofNat_of_zero_le hl
 obtain ⟨rn,rfl⟩:=Int.eq_ofNat_of_zero_le hr0
 simp only [Int.toNat_natCast]
 obtain ⟨ao,cap,c2,own⟩:=hr.c2
 have f2:=hr.f2
 have hR:=hr.lt
 obtain ⟨i0,hi,hz0,hz1,hz2⟩:=info_parts Tryz.ZW
 go_enter Tryz.func111,Tryz.ntmps111
 go_wp2_with (at_builtin;refine wpList_append_own _ rfl (.tmp 12) (.tmp 17) 54 rfl (R+1) 109 i0 (.agg #[.int .u8 0,.int .i64 0,.int .i64 0]) 3 24 Tryz.underlying54 hi hz0 hz1 hz2 rfl (by decide) _ _ _ rfl (own.alloc _) ⟨w.heap.size,0,none⟩ 1 1 [.int .u8 on,.int .i64 ln,.int .i64 rn] rfl rfl ?c1 ?c2 ?c3 ?c4 ?c5 ?_)
 case c1=>exact IZ _ _ _ _ _
 case c2=>intro u hu;simp at hu;rcases hu with rfl | rfl | rfl <;> rfl
 case c3=>unfold maxLen;omega
 case c4=>omega
 case c5=>simp;omega
 intro v' w1 hown hgrow _
 have hbel:Below (R+1) w w1:=((Below.refl _ _).alloc (by omega) _).grown hgrow (by simp;omega) (fun k h=>(own.lt k h).1)
 have e1:ns.length+1=(ns++[(⟨on,ln,rn⟩:Nd)]).length:=by simp
 have e2:flat ns++[.int .u8 on,.int .i64 ln,.int .i64 rn]=flat (ns++[(⟨on,ln,rn⟩:Nd)]):=(Xc ns ⟨on,ln,rn⟩).symm
 rw [e2,e1] at hown
 obtain ⟨ao',cap',hv⟩:∃ ao' cap',v'=.slice ao' (ns++[(⟨on,ln,rn⟩:Nd)]).length cap':=by
  rcases hown.2 with ⟨h,h0⟩ | ⟨g,cap',_,h,_⟩
  ·simp at h0
  ·exact ⟨_,cap',h⟩
 subst hv
 have P1:=hid (hr.pushed hbel _ ao' cap' hown)
 have k2:=(hbel.cell (p:=⟨R,2,none⟩) (Nat.lt_succ_self _)).trans c2
 have g2:=(hbel.frozen (p:=⟨R,2,none⟩) (Nat.lt_succ_self _)).trans f2
 have B1:=hid ((hbel.mono (Nat.le_succ R)).setCell (p:=⟨R,2,none⟩) (Nat.le_refl _) (.slice ao' (ns++[(⟨on,ln,rn⟩:Nd)]).length cap'))
 clear hown hgrow e1 e2 hbel own c2 f2
 go_wp2
 go_end0
 have q1:=P1.out
 have q2:=B1.out
 rw [List.length_append,List.length_singleton] at q1 q2
 exact ⟨rfl,q1,q2⟩
theorem xA (b:Nat) (w:World) (hb:b<256):Calls Tryz.prog 142 #[.int .u8 b] w fun e w'=>e=.returned (.bool (bz b))∧w'=w:=by
 by_cases h1:b=38
 ·subst h1
  go_enter Tryz.func142,Tryz.ntmps142
  go_wp2
  go_ret
  exact ⟨rfl,rfl⟩
 by_cases h2:b=124
 ·subst h2
  go_enter Tryz.func142,Tryz.ntmps142
  go_wp2
  go_ret
  exact ⟨rfl,rfl⟩
 by_cases h3:b=85
 ·subst h3
  go_enter Tryz.func142,Tryz.ntmps142
  go_wp2
  go_ret
  exact ⟨rfl,rfl⟩
 by_cases h4:b=82
 ·subst h4
  go_enter Tryz.func142,Tryz.ntmps142
  go_wp2
  go_ret
  exact ⟨rfl,rfl⟩
 have k1:((b:Int)==38)=false:=beq_eq_false_iff_ne.2 (by omega)
 have k2:((b:Int)==124)=false:=beq_eq_false_iff_ne.2 (by omega)
 have k3:((b:Int)==85)=false:=beq_eq_false_iff_ne.2 (by omega)
 have k4:((b:Int)==82)=false:=beq_eq_false_iff_ne.2 (by omega)
 have k5:bz b=false:=by
  cases e:bz b with
  | false=>rfl
  | true=>have:=jL e;omega
 go_enter Tryz.func142,Tryz.ntmps142
 go_wp2
 go_ret
 rw [k5]
 exact ⟨rfl,rfl⟩
structure St where
 out:Int
 next:List Int
def eP (n i:Nat) (fin:Bool) (k:Int):Bool:=decide (0≤k)&&decide (k<n)&&(!fin||decide (k=i))
def sU (o:Int):Bool:=decide (o=1)||decide (o=2)
def nJ (n i:Nat) (s:St):Bool:=(decide (s.out=0)||sU s.out)&&s.next.all (eP n i (sU s.out))
def aM (ss:List St) (i:Nat):St:=ss.getD i ⟨0,[]⟩
def kN (ss:List St):Bool:=decide (1≤ss.length)&&decide (ss.length≤8)&&(List.range ss.length).all fun i=>nJ ss.length i (aM ss i)
def cK (os:List Int) (ls:List (List Int)):List St:=List.zipWith St.mk os ls
def dC (os:List Int) (ls:List (List Int)):Bool:=decide (ls.length=os.length)&&ls.all (fun l=>decide (l.length=8))&&kN (cK os ls)
def iM (ss:List St):Prop:=∀ s∈ss,s.next.length=8
def fH (s:St):List Value:=Value.int .i64 s.out::s.next.map (Value.int .i64)
def uS (s:St):Array Value:=(fH s).toArray
def dY (ss:List St):List Value:=ss.flatMap fH
theorem ym {l:List Int} (h:l.length=8):∃ a0 a1 a2 a3 a4 a5 a6 a7,l=[a0,a1,a2,a3,a4,a5,a6,a7]:=by
 match l,h with
 | [a0,a1,a2,a3,a4,a5,a6,a7],_=>exact ⟨_,_,_,_,_,_,_,_,rfl⟩
theorem PY {s:St} (h:s.next.length=8):(fH s).length=9:=by simp [fH,h]
theorem rE (ss:List St) (s:St):dY (ss++[s])=dY ss++fH s:=by simp [dY]
theorem oo {ss:List St} (h:iM ss) {i:Nat} (hi:i<ss.length):(aM ss i).next.length=8:=by
 have:aM ss i=ss[i]:=by simp [aM,List.getD,List.getElem?_eq_getElem hi]
 rw [this];exact h _ (List.getElem_mem hi)
theorem uj {ss:List St} (h:iM ss) {i:Nat} (hi:i<ss.length) {j:Nat} (hj:j<9):(dY ss)[i*9+j]?=(fH (aM ss i))[j]?:=by
 induction ss generalizing i with
 | nil=>simp at hi
 | cons s ss ih=>
  have h1:s.next.length=8:=h s (by simp)
  have hs:=PY h1
  cases i with
  | zero=>
   show (fH s++dY ss)[0*9+j]?=_
   rw [List.getElem?_append_left (by omega)]
   simp [aM]
  | succ i=>
   show (fH s++dY ss)[(i+1)*9+j]?=_
   rw [List.getElem?_append_right (by omega),hs,show (i+1)*9+j - 9=i*9+j by omega,ih (fun x hx=>h x (by simp [hx])) (by simpa using hi)]
   simp [aM]
theorem XV {n:Nat} {p:Nat→Bool}:(List.range n).all p=true↔∀ i,i<n→p i=true:=by simp [List.all_eq_true]
theorem iw {ss:List St}:kN ss=true↔1≤ss.length∧ss.length≤8∧∀ i,i<ss.length→nJ ss.length i (aM ss i)=true:=by
 unfold kN
 rw [Bool.and_eq_true,Bool.and_eq_true,XV]
 simp [and_assoc]
theorem lD {os:List Int} {ls:List (List Int)} (h:ls.length=os.length):(cK os ls).length=os.length:=by simp [cK,h]
theorem EU {os:List Int} {ls:List (List Int)} (h:ls.length=os.length) {i:Nat} (hi:i<os.length):aM (cK os ls) i=⟨os.getD i 0,ls.getD i []⟩:=by
 have h1:i<(cK os ls).length:=by rw [lD h];exact hi
 have h2:(cK os ls)[i]?=some ⟨os[i],ls[i]⟩:=by rw [List.getElem?_eq_getElem h1];simp [cK]
 simp [aM,List.getD,h2,List.getElem?_eq_getElem hi,List.getElem?_eq_getElem (show i<ls.length by omega)]
theorem UF {os:List Int} {ls:List (List Int)} (h:ls.all (fun l=>decide (l.length=8))=true):iM (cK os ls):=by
 intro s hs
 rw [List.all_eq_true] at h
 obtain ⟨i,hi,rfl⟩:=List.getElem_of_mem hs
 simp [cK] at hi ⊢
 have:=h (ls[i]) (List.getElem_mem _)
 simpa using this
def uq (z:Int):UInt8:=UInt8.ofNat z.toNat
def nz (s:St):List UInt8:=uq s.out::s.next.map uq
def bytesOf (ss:List St):List UInt8:=uq (ss.length:Int)::ss.flatMap nz
theorem xI {z:Int} (h0:0≤z) (h1:z<256):((uq z).toNat:Int)=z:=by
 unfold uq
 rw [UInt8.toNat_ofNat']
 omega
def iY (os:List Int) (ls:List (List Int)):Nat:=if dC os ls=true then 0 else 8
def iX (os:List Int) (ls:List (List Int)):ByteArray:=if dC os ls=true then ⟨(bytesOf (cK os ls)).toArray⟩ else ⟨#[]⟩
structure Ints (w:World) (ao:Option Addr) (len cap:Nat) (zs:List Int):Prop where
 hlen:zs.length=len
 hcap:len≤cap
 hmax:cap≤9223372036854775807
 hnil:ao=none→len=0∧cap=0
 hcell:0<len→∃ b off,ao=some ⟨b,off,none⟩∧b<w.heap.size∧∀ i,i<len→w.cell? ⟨b,off+i,none⟩=some (.int .i64 (zs.getD i 0))
theorem Ints.below {w w':World} {ao:Option Addr} {len cap:Nat} {zs:List Int} (h:Ints w ao len cap zs) (hb:Below w.heap.size w w'):Ints w' ao len cap zs:=by
 refine ⟨h.hlen,h.hcap,h.hmax,h.hnil,fun h0=>?_⟩
 obtain ⟨b,off,e,hlt,hc⟩:=h.hcell h0
 exact ⟨b,off,e,Nat.lt_of_lt_of_le hlt hb.size,fun i hi=>by rw [hb.cell (p:=⟨b,off+i,none⟩) hlt];exact hc i hi⟩
def nY (z:Int):Bool:=decide (0≤z)&&decide (z<8)
def bI (zs:List Int):Bool:=zs.all nY
theorem gQ {z:Int}:nY z=true↔0≤z∧z<8:=by simp [nY]
theorem WC {z:Int} (h:z<0∨7<z):nY z=false:=by
 cases e:nY z with
 | false=>rfl
 | true=>rw [gQ] at e;omega
theorem BG (z:Int) (w:World):Calls Tryz.prog 129 #[.int .i64 z] w fun e w'=>e=.returned (.bool (nY z))∧w'=w:=by
 by_cases h1:0≤z
 ·by_cases h2:z<8
  ·have H:Hid (nY z=true):=hid (by simp [nY,h1,h2])
   go_enter Tryz.func129,Tryz.ntmps129
   go_wp2
   go_ret
   exact ⟨by rw [H.out];rfl,rfl⟩
  ·have H:Hid (nY z=false):=hid (by simp [nY];omega)
   go_enter Tryz.func129,Tryz.ntmps129
   go_wp2
   go_ret
   exact ⟨by rw [H.out];rfl,rfl⟩
 ·have H:Hid (nY z=false):=hid (by simp [nY];omega)
  go_enter Tryz.func129,Tryz.ntmps129
  go_wp2
  go_ret
  exact ⟨by rw [H.out];rfl,rfl⟩
theorem OQ {zs:List Int} (h:∀ m,m<zs.length→nY (zs.getD m 0)=true):bI zs=true:=by
 unfold bI
 rw [List.all_eq_true]
 intro x hx
 obtain ⟨i,hi,rfl⟩:=List.getElem_of_mem hx
 have:=h i hi
 simpa [List.getD,List.getElem?_eq_getElem hi] using this
theorem I6 {zs:List Int} {m:Nat} (hm:m<zs.length) (h:nY (zs.getD m 0)=false):bI zs=false:=by
 unfold bI
 rw [List.all_eq_false]
 refine ⟨zs[m],List.getElem_mem hm,?_⟩
 simpa [List.getD,List.getElem?_eq_getElem hm] using h
theorem iB (ao:Option Addr) (len cap:Nat) (zs:List Int) (w:World) (h:Ints w ao len cap zs):Calls Tryz.prog 86 #[.slice ao len cap] w fun e w'=>e=.returned (.bool (bI zs))∧w'=w:=by
 have hl:=h.hlen
 have hc:=h.hcap
 have hm:=h.hmax
 go_enter Tryz.func86,Tryz.ntmps86
 go_wp2_with fail
 go_loop [7] (fun i=>∃ j:Nat,j≤len∧i=.int .i64 j∧Hid (∀ m,m<j→nY (zs.getD m 0)=true)) (fun i=>len - (intOf i).toNat)
 case atStart=>exact ⟨0,Nat.zero_le _,rfl,hid (fun m hm=>by omega)⟩
 case round=>
  obtain ⟨j,hj,rfl,HI⟩:=hrel
  by_cases hlt:j<len
  ·obtain ⟨b,off,rfl,hb,hcell⟩:=h.hcell (by omega)
   have c:=hcell j hlt
   clear hcell
   cases hz:nY (zs.getD j 0) with
   | true=>
    have HZ:=hid hz
    clear hz
    generalize hx:zs.getD j 0=x at *
    have HX:=hid hx
    clear hx
    go_wp2_with fail
    refine (BG x w).mono ?_
    rintro e w' ⟨rfl,rfl⟩
    rw [HZ.out]
    go_wp2_with fail
    go_round
    case rel=>
     refine ⟨j+1,by omega,by go_num,hid (fun m hm=>?_)⟩
     by_cases e:m<j
     ·exact HI.out m e
     ·rw [show m=j by omega,HX.out];exact HZ.out
    case measure=>simp [intOf];omega
   | false=>
    have HN:=hid (I6 (zs:=zs) (m:=j) (by omega) hz)
    have HZ:=hid hz
    clear hz
    generalize zs.getD j 0=x at *
    go_wp2_with fail
    refine (BG x w).mono ?_
    rintro e w' ⟨rfl,rfl⟩
    rw [HZ.out]
    go_wp2_with fail
    go_ret
    exact ⟨by rw [HN.out];rfl,rfl⟩
  ·have HA:=hid (OQ (zs:=zs) (fun m hm=>HI.out m (by omega)))
   go_wp2_with fail
   go_ret
   exact ⟨by rw [HA.out];rfl,rfl⟩
theorem qy (ao:Option Addr) (len cap:Nat) (zs:List Int) (w:World) (h:Ints w ao len cap zs):Calls Tryz.prog 102 #[.slice ao len cap] w fun e w'=>e=.returned (.bool (bI zs))∧w'=w:=by
 have hl:=h.hlen
 have hc:=h.hcap
 have hm:=h.hmax
 go_enter Tryz.func102,Tryz.ntmps102
 go_wp2_with fail
 go_loop [3] (fun i=>∃ j:Nat,j≤len∧i=.int .i64 j∧Hid (∀ m,m<j→nY (zs.getD m 0)=true)) (fun i=>len - (intOf i).toNat)
 case atStart=>exact ⟨0,Nat.zero_le _,rfl,hid (fun m hm=>by omega)⟩
 case round=>
  obtain ⟨j,hj,rfl,HI⟩:=hrel
  by_cases hlt:j<len
  ·obtain ⟨b,off,rfl,hb,hcell⟩:=h.hcell (by omega)
   have c:=hcell j hlt
   clear hcell
   by_cases h1:zs.getD j 0<0
   ·have HN:=hid (I6 (zs:=zs) (m:=j) (by omega) (WC (by omega)))
    generalize zs.getD j 0=x at *
    go_wp2_with fail
    go_ret
    exact ⟨by rw [HN.out];rfl,rfl⟩
   by_cases h2:7<zs.getD j 0
   ·have HN:=hid (I6 (zs:=zs) (m:=j) (by omega) (WC (by omega)))
    generalize zs.getD j 0=x at *
    go_wp2_with fail
    go_ret
    exact ⟨by rw [HN.out];rfl,rfl⟩
   have HZ:Hid (nY (zs.getD j 0)=true):=hid (by rw [gQ];omega)
   generalize hx:zs.getD j 0=x at *
   have HX:=hid hx
   clear hx
   go_wp2_with fail
   go_round
   case rel=>
    refine ⟨j+1,by omega,by go_num,hid (fun m hm=>?_)⟩
    by_cases e:m<j
    ·exact HI.out m e
    ·rw [show m=j by omega,HX.out];exact HZ.out
   case measure=>simp [intOf];omega
  ·have HA:=hid (OQ (zs:=zs) (fun m hm=>HI.out m (by omega)))
   go_wp2_with fail
   go_ret
   exact ⟨by rw [HA.out];rfl,rfl⟩
theorem run_sizeOf {P:Program} {t:TypeId} {n:Nat} (h:(P.info? t).map (·.size)=some n) (w:World):(sizeOf t).run P w=.ok n w:=by
 cases hq:P.info? t with
 | none=>simp [hq] at h
 | some i=>simp [hq] at h;simp [sizeOf,typeInfo,hq,h]
theorem jG {P:Program} {t:TypeId} {k:IntKind} (h:P.underlying t=some (.int k)) (w:World):(isAgg t).run P w=.ok false w:=by
 simp [isAgg,run_underlying h]
theorem yG {P:Program} {t:TypeId} (h:P.underlying t=some .bool) (w:World):(isAgg t).run P w=.ok false w:=by
 simp [isAgg,run_underlying h]
theorem gY {P:Program} {t e:TypeId} {len:Nat} {X:Array Value} {j:Nat} {v:Value} (w:World) (ht:P.underlying t=some (.array len e)) (he:∀ w,(isAgg e).run P w=.ok false w) (hs:(P.info? e).map (·.size)=some 1)
  (hj:j<len) (hX:X[j]?=some v):(Instr.index t (.agg X) (.int .i64 (j:Nat))).run P w=.ok v w:=by
 have h0:(0:Int)≤(j:Int)∧(j:Int)<(len:Int):=by omega
 simp only [Instr.index,asIntOf,Sem.run_bind,Sem.run_pure,Result.andThen,run_underlying ht,if_pos h0,run_sizeOf hs,part,he]
 simp [hX]
end Go.Proofs.YtjagijohfkffiabGreat
