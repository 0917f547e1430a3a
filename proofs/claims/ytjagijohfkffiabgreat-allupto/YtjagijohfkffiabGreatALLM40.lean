import Derived.Test.YtjagijohfkffiabGreatALLM03
import Derived.Test.YtjagijohfkffiabGreatALLM39
import Derived.ProofKit
import Derived.OpenShut
import Derived.ShutString
import Derived.ChangeOld
import Derived.Deep.Matrix
import Derived.ChangeSame
set_option maxHeartbeats 16000000
set_option maxRecDepth 100000
namespace Go.Proofs.YtjagijohfkffiabGreat.watches
open Go.ChangeShapes Go.WideShapes Go.ChangeAt Go.RowKit
open Go.ChangeMaps (open_string shut_string)
set_option linter.unusedVariables false
theorem SE (s:ByteArray) (w:World) (hm:s.size≤maxLen):Calls Tryz.prog 12 #[.string s] w (tq s w):=by
 by_cases h:(af s).1=0
 ·exact Sz s w hm h
 ·exact Vr s w hm h
theorem Qj {ns:List Nd} {ss:List St} {n:Nat} {out:Nat→Nat} {nx:Nat→Nat→Nat} (h:GR ns ss) (k:Ap ns n out nx):ss.length=n∧fC ss n=ry ((List.range n).map out)∧gU ss n=(List.range n).map fun i=>ry ((List.range 8).map fun l=>nx i l):=by
 obtain ⟨out1,nx1,hM,hs⟩:=h
 obtain ⟨rfl,e1,e2⟩:=M3 hM k
 have st:∀ i,i<ss.length→aM ss i=uE (out1 i) (nx1 i):=fun i hi=>by simp [aM,List.getD,hs i hi]
 refine ⟨rfl,?_,?_⟩
 ·unfold fC ry
  rw [List.map_map]
  refine List.map_congr_left fun i hi=>?_
  have hi':i<ss.length:=by simpa using hi
  rw [st i hi',e1 i hi']
  rfl
 ·unfold gU
  refine List.map_congr_left fun i hi=>?_
  have hi':i<ss.length:=by simpa using hi
  rw [st i hi']
  have e3:∀ l,l<8→nx1 i l=nx i l:=fun l hl=>e2 i l hi' hl
  simp only [uE,e3 0 (by omega),e3 1 (by omega),e3 2 (by omega),e3 3 (by omega),e3 4 (by omega),e3 5 (by omega),e3 6 (by omega),e3 7 (by omega)]
  rfl
theorem Ql (a0:ByteArray) (w0:a0.size≤maxLen) (w:World) :
  Calls Tryz.prog 26 #[.string a0] w fun e w'=>e=.returned (.bool true)∧Below w.heap.size w w':=by
 have C1:=UQ a0 w w0
 have C2:=fun W=>SE a0 W w0
 unfold vJ at C1
 unfold tq at C2
 generalize af a0=p at *
 go_enter Tryz.func26,Tryz.ntmps26
 go_wp2_with fail
 refine C1.mono ?_
 rintro e w1 ⟨v1,v2,er1,rfl,p1,q1,hb1⟩
 have wX:Hid ((p.1≠0∧er1=p.1∧v1=.slice none 0 0∧v2=.slice none 0 0)∨(p.1=0∧er1=0∧∃ ss V,kQ w1 w.heap.size v1 v2 V ss ss.length∧ss.length≤8∧GR p.2 ss)∨(p.1=0∧er1=7∧v1=.slice none 0 0∧v2=.slice none 0 0∧Big p.2)):=hid (by
  by_cases h0:p.1=0
  ·rcases q1 h0 with ⟨h1,ss,V,h2,_,h3,h4⟩ | ⟨h1,h2,h3,h4⟩
   ·exact Or.inr (Or.inl ⟨h0,h1,ss,V,h2,h3,h4⟩)
   ·exact Or.inr (Or.inr ⟨h0,h1,h2,h3,h4⟩)
  ·exact Or.inl ⟨h0,p1 h0⟩)
 obtain ⟨x1,l1,c1,hv1⟩:∃ a l c,v1=.slice a l c:=by
  rcases wX.out with ⟨_,_,h,_⟩ | ⟨_,_,ss,V,h,_⟩ | ⟨_,_,h,_⟩
  ·exact ⟨_,_,_,h⟩
  ·obtain ⟨a,c,e⟩:=ag h.out
   exact ⟨a,_,c,e⟩
  ·exact ⟨_,_,_,h⟩
 obtain ⟨x2,l2,c2,hv2⟩:∃ a l c,v2=.slice a l c:=by
  rcases wX.out with ⟨_,_,_,h⟩ | ⟨_,_,ss,V,h,_⟩ | ⟨_,_,_,h,_⟩
  ·exact ⟨_,_,_,h⟩
  ·obtain ⟨a,c,e⟩:=ag h.mV
   exact ⟨a,_,c,e⟩
  ·exact ⟨_,_,_,h⟩
 subst hv1
 subst hv2
 clear p1 q1 C1
 have ba:=hid ((Below.refl w1.heap.size w1).alloc (Nat.le_refl _) (.cells #[.slice x1 l1 c1,.slice x2 l2 c2] 37))
 go_wp2_with fail
 refine (C2 _).mono ?_
 rintro e w2 ⟨u1,u2,er2,rfl,p2,q2,hb2⟩
 simp only [World.size_alloc] at hb2
 have bw:=hid (ba.out.trans (hb2.mono (by omega)))
 have MV:∀ W:World,Ints W none 0 0 []:=fun W=>⟨rfl,Nat.le_refl _,by omega,fun _=>⟨rfl,rfl⟩,fun h=>by omega⟩
 have MU:∀ W:World,Lists W none 0 0 []:=fun W=>⟨rfl,Nat.le_refl _,by omega,fun _=>⟨rfl,rfl⟩,fun h=>by omega⟩
 obtain ⟨y1,m1,d1,y2,m2,d2,os,ls,hu1,hu2,I1,L1,I2,L2,her⟩:∃ y1 m1 d1 y2 m2 d2 os ls,u1=.slice y1 m1 d1∧u2=.slice y2 m2 d2∧Ints w2 x1 l1 c1 os∧Lists w2 x2 l2 c2 ls∧Ints w2 y1 m1 d1 os∧Lists w2 y2 m2 d2 ls∧er1=er2:=by
  rcases wX.out with ⟨h0,h1,h2,h3⟩ | ⟨h0,h1,ss,V,h2,h3,h4⟩ | ⟨h0,h1,h2,h3,h4⟩
  ·obtain ⟨k1,k2,k3⟩:=p2 h0
   cases h2
   cases h3
   exact ⟨_,_,_,_,_,_,[],[],k2,k3,MV _,MU _,MV _,MU _,by rw [h1,k1]⟩
  ·rcases q2 h0 with ⟨k1,n,out,nx,k2,k3,⟨a,c,k4,k5⟩,⟨a',c',k6,k7⟩⟩ | ⟨_,_,_,k4⟩
   ·obtain ⟨e1,e2,e3⟩:=Qj h4 k2
    have hL:=h2.keeps bw.out
    obtain ⟨b1,b2,f1,f2⟩:=hL.ints
    obtain ⟨b3,b4,f3,f4⟩:=hL.lists
    cases f1
    cases f3
    rw [e1,e2] at f2
    rw [e1,e3] at f4
    rw [e1]
    exact ⟨_,_,_,_,_,_,_,_,k4,k6,f2,f4,k5,k7,by rw [h1,k1]⟩
   ·obtain ⟨o9,n9,hM,_⟩:=h4
    have:=k4 _ _ _ hM
    omega
  ·rcases q2 h0 with ⟨k1,n,out,nx,k2,k3,_⟩ | ⟨k1,k2,k3,k4⟩
   ·have:=h4 _ _ _ k2
    omega
   ·cases h2
    cases h3
    exact ⟨_,_,_,_,_,_,[],[],k2,k3,MV _,MU _,MV _,MU _,by rw [h1,k1]⟩
 subst hu1
 subst hu2
 subst her
 have hm1:m1=l1:=by rw [←I1.hlen,←I2.hlen]
 have hm2:m2=l2:=by rw [←L1.hlen,←L2.hlen]
 subst hm1
 subst hm2
 have T1:=(bF w1 (.slice x1 m1 c1) (.slice x2 m2 c2) 37).below hb2 (by simp)
 have t0:=T1.c0
 have t1:=T1.c1
 have tl:=T1.lt
 have bc:=(Below.refl w2.heap.size w2).alloc (Nat.le_refl _) (.cells #[.slice y1 m1 d1,.slice y2 m2 d2] 37)
 have SM:=hid (xh x1 x2 y1 y2 m1 c1 m2 c2 d1 d2 os ls _ (I1.below bc) (L1.below bc) (I2.below bc) (L2.below bc))
 have B:=hid (((hb1.trans (bw.out.mono hb1.size)).trans (bc.mono (hb1.trans (bw.out.mono hb1.size)).size)))
 clear wX C2 p2 q2 hb1 hb2 bw ba MV MU I1 L1 I2 L2 T1 bc
 go_wp2_with fail
 refine SM.out.mono ?_
 rintro e w3 ⟨rfl,hb3⟩
 have B3:=hid (B.out.trans (hb3.mono B.out.size))
 clear SM hb3
 go_wp2
 go_ret
 exact ⟨rfl,B3.out⟩
end Go.Proofs.YtjagijohfkffiabGreat.watches
namespace Go.Proofs.YtjagijohfkffiabGreat
open Go.RowKit
set_option linter.unusedVariables false
def rB (n i:Nat) (o k:Int):Bool:=decide (0≤k)&&decide (k<n)&&(decide (o=0)||decide (k=i))
def Rj (o:Int) (l:List Int):Bool:=decide (l.length=8)&&decide (0≤o)&&decide (o≤2)
def Ik (n i:Nat) (o:Int) (l:List Int):Bool:=Rj o l&&l.all (rB n i o)
theorem acH {n i:Nat} {o k:Int} (h0:0≤o) (h2:o≤2):rB n i o k=eP n i (sU o) k:=by
 unfold rB eP sU
 have:o=0∨o=1∨o=2:=by omega
 rcases this with rfl | rfl | rfl <;> simp
theorem Ij {n i:Nat} {o:Int} {l:List Int}:Ik n i o l=(decide (l.length=8)&&nJ n i ⟨o,l⟩):=by
 unfold Ik Rj nJ
 by_cases h0:0≤o
 ·by_cases h2:o≤2
  ·have e:(rB n i o)=eP n i (sU o):=funext fun k=>acH h0 h2
   have:o=0∨o=1∨o=2:=by omega
   rw [e]
   rcases this with rfl | rfl | rfl <;> simp [sU]
  ·simp [sU,h2]
   intro h h3
   omega
 ·simp [sU,h0]
  intro h h3
  omega
theorem Qs {os:List Int} {ls:List (List Int)} (hl:ls.length=os.length) (h1:1≤os.length) (h8:os.length≤8):dC os ls=true↔∀ i,i<os.length→Ik os.length i (os.getD i 0) (ls.getD i [])=true:=by
 constructor
 ·intro h i hi
  have e:=mr h
  rw [Ij,e.2.1 i (by omega)]
  have:=(iw.1 e.2.2).2.2 i (by rw [lD hl];exact hi)
  rw [lD hl,EU hl hi] at this
  rw [this];rfl
 ·intro h
  have e2:∀ i,i<ls.length→(ls.getD i []).length=8:=fun i hi=>by
   have:=h i (by omega)
   rw [Ij] at this
   simp at this
   simpa using this.1
  rw [(ui hl e2).1,iw,lD hl]
  refine ⟨h1,h8,fun i hi=>?_⟩
  have:=h i hi
  rw [Ij] at this
  rw [EU hl hi]
  simp only [Bool.and_eq_true] at this
  exact this.2
section
variable (a1 a2:Option Addr) (l1 c1 l2 c2:Nat) (os:List Int) (ls:List (List Int)) (w:World)
theorem Ug (h1:Ints w a1 l1 c1 os) (h2:Lists w a2 l2 c2 ls) (h:l1=0∨8<l1∨l2≠l1):Calls Tryz.prog 41 #[.agg #[.slice a1 l1 c1,.slice a2 l2 c2]] w fun e w'=>e=.returned (.bool (dC os ls))∧Below w.heap.size w w':=by
 have E:Hid (dC os ls=false):=hid (qH fun e=>by
  have e2:=mr e
  have e3:=iw.1 e2.2.2
  rw [lD e2.1,h1.hlen] at e3
  have:=e2.1
  rw [h1.hlen,h2.hlen] at this
  omega)
 have m1:=h1.hmax
 have m3:=h1.hcap
 have m2:=h2.hmax
 have m4:=h2.hcap
 by_cases k1:l1=0
 ·subst k1
  go_enter Tryz.func41,Tryz.ntmps41
  go_wp2_with fail
  go_ret
  exact ⟨by rw [E.out];rfl,(Below.refl _ _).alloc (Nat.le_refl _) _⟩
 have q1:((l1:Int)==0)=false:=beq_eq_false_iff_ne.2 (by omega)
 by_cases k2:8<l1
 ·go_enter Tryz.func41,Tryz.ntmps41
  go_wp2_with fail
  go_ret
  exact ⟨by rw [E.out];rfl,(Below.refl _ _).alloc (Nat.le_refl _) _⟩
 have k3:((l2:Int)!=(l1:Int))=true:=bne_iff_ne.2 (by omega)
 go_enter Tryz.func41,Tryz.ntmps41
 go_wp2_with fail
 go_ret
 exact ⟨by rw [E.out];rfl,(Below.refl _ _).alloc (Nat.le_refl _) _⟩
theorem Qr (h1:Ints w a1 l1 c1 os) (h2:Lists w a2 l1 c2 ls) (hp:1≤l1) (h8:l1≤8):Calls Tryz.prog 41 #[.agg #[.slice a1 l1 c1,.slice a2 l1 c2]] w fun e w'=>e=.returned (.bool (dC os ls))∧Below w.heap.size w w':=by
 have m1:=h1.hmax
 have m3:=h1.hcap
 have m2:=h2.hmax
 have m4:=h2.hcap
 have L1:=h1.hlen
 have L2:=h2.hlen
 have q1:((l1:Int)==0)=false:=beq_eq_false_iff_ne.2 (by omega)
 have HF:=hid (Qs (os:=os) (ls:=ls) (by omega) (by omega) (by omega))
 rw [L1] at HF
 obtain ⟨b1,o1,rfl,hlt1,hc1⟩:=h1.hcell (by omega)
 obtain ⟨b2,o2,rfl,hlt2,hc2⟩:=h2.hcell (by omega)
 go_enter Tryz.func41,Tryz.ntmps41
 go_wp2_with fail
 go_loopw [4] (fun i wr=>∃ (j:Nat),j≤l1∧i=.int .i64 j∧Below (w.heap.size+1) (w.alloc (.cells #[.slice (some ⟨b1,o1,none⟩) l1 c1,.slice (some ⟨b2,o2,none⟩) l1 c2] 37)) wr∧Hid (∀ m,m<j→Ik l1 m (os.getD m 0) (ls.getD m [])=true)) (fun i _=>l1 - (intOf i).toNat)
 case atStart=>exact ⟨0,Nat.zero_le _,rfl,Below.refl _ _,hid (fun m hm=>by omega)⟩
 case round=>
  obtain ⟨j,hj,rfl,hb,HI⟩:=hrel
  have hbw:Below w.heap.size w wr:=((Below.refl _ _).alloc (Nat.le_refl _) _).trans (hb.mono (Nat.le_succ _))
  by_cases hlt:j<l1
  ·obtain ⟨ra,rl,rc,cr,hr⟩:=hc2 j hlt
   have Xx:=(hbw.cell (p:=⟨b2,o2+j,none⟩) hlt2).trans cr
   have cO:=(hbw.cell (p:=⟨b1,o1+j,none⟩) hlt1).trans (hc1 j hlt)
   have p0:=(hb.cell (p:=⟨w.heap.size,0,none⟩) (Nat.lt_succ_self _)).trans (World.cell?_alloc_new w _ _ 0)
   have p1:=(hb.cell (p:=⟨w.heap.size,1,none⟩) (Nat.lt_succ_self _)).trans (World.cell?_alloc_new w _ _ 1)
   simp at p0 p1
   have rl':=hr.hlen
   have nE:=hr.hcap
   have Zm:=hr.hmax
   have hc1':=hc1 j hlt
   have HB:Hid (Ik l1 j (os.getD j 0) (ls.getD j [])=(Rj (os.getD j 0) (ls.getD j [])&&(ls.getD j []).all (rB l1 j (os.getD j 0)))):=hid rfl
   generalize hrow:ls.getD j []=row at *
   generalize ho:os.getD j 0=o at *
   have HRW:=hid hrow
   have HOW:=hid ho
   clear hrow ho
   have HO:=hid (hc1':w.cell? ⟨b1,o1+j,none⟩=some (.int .i64 o))
   clear hc1'
   cases hbs:Rj o row with
   | true=>
    have eF:=hid hbs
    unfold Rj at hbs
    simp only [Bool.and_eq_true,decide_eq_true_eq] at hbs
    obtain ⟨⟨e8,y0⟩,y2⟩:=hbs
    obtain rfl:rl=8:=by omega
    have y0':decide (0≤o)=true:=by simp;omega
    have y2':decide (o≤2)=true:=by simp;omega
    go_wp2_with fail
    go_loopw [6,5] (fun i s wr=>∃ (a:Nat),a≤8∧i=.int .i64 a∧s=.bool ((row.take a).all (rB l1 j o))∧Below (w.heap.size+1) (w.alloc (.cells #[.slice (some ⟨b1,o1,none⟩) l1 c1,.slice (some ⟨b2,o2,none⟩) l1 c2] 37)) wr) (fun i _ _=>8 - (intOf i).toNat)
    case atStart=>exact ⟨0,Nat.zero_le _,rfl,by simp,hb⟩
    case round=>
     obtain ⟨a,ha,rfl,rfl,hbq⟩:=hrel
     have mq:Below w.heap.size w wr:=((Below.refl _ _).alloc (Nat.le_refl _) _).trans (hbq.mono (Nat.le_succ _))
     have crq:=(mq.cell (p:=⟨b2,o2+j,none⟩) hlt2).trans cr
     have cOq:=(mq.cell (p:=⟨b1,o1+j,none⟩) hlt1).trans HO.out
     have p0:=(hbq.cell (p:=⟨w.heap.size,0,none⟩) (Nat.lt_succ_self _)).trans (World.cell?_alloc_new w _ _ 0)
     have p1:=(hbq.cell (p:=⟨w.heap.size,1,none⟩) (Nat.lt_succ_self _)).trans (World.cell?_alloc_new w _ _ 1)
     simp at p0 p1
     by_cases hla:a<8
     ·obtain ⟨b3,o3,rfl,hlt3,hc3⟩:=hr.hcell (by omega)
      have cx:=(mq.cell (p:=⟨b3,o3+a,none⟩) hlt3).trans (hc3 a hla)
      have HS:Hid ((row.take (a+1)).all (rB l1 j o)=((row.take a).all (rB l1 j o)&&rB l1 j o (row.getD a 0))):=hid (by
       rw [List.take_succ_eq_append_getElem (show a<row.length by omega),List.all_append,List.all_cons,List.all_nil,Bool.and_true]
       simp [List.getD,List.getElem?_eq_getElem (show a<row.length by omega)])
      clear hc3
      generalize row.getD a 0=x at *
      cases ecur:(row.take a).all (rB l1 j o) with
      | false=>
       have HC:=hid ecur
       clear ecur
       go_wp2_with fail
       go_roundw
       case rel=>exact ⟨a+1,by omega,by go_num,by rw [HS.out,HC.out];rfl,hbq⟩
       case measure=>simp [intOf];omega
      | true=>
       have HC:=hid ecur
       clear ecur
       by_cases x1:x<0
       ·have HR:Hid (rB l1 j o x=false):=hid (by simp [rB];omega)
        have Bb:decide (0≤x)=false:=by simp;omega
        go_wp2_with fail
        go_roundw
        case rel=>exact ⟨a+1,by omega,by go_num,by rw [HS.out,HR.out,HC.out];rfl,hbq⟩
        case measure=>simp [intOf];omega
       by_cases x2:(l1:Int)≤x
       ·have HR:Hid (rB l1 j o x=false):=hid (by simp [rB];omega)
        have Bb:decide (0≤x)=true:=by simp;omega
        have De:decide (x<(l1:Int))=false:=by simp;omega
        go_wp2_with fail
        go_roundw
        case rel=>exact ⟨a+1,by omega,by go_num,by rw [HS.out,HR.out,HC.out];rfl,hbq⟩
        case measure=>simp [intOf];omega
       have Bb:decide (0≤x)=true:=by simp;omega
       have De:decide (x<(l1:Int))=true:=by simp;omega
       by_cases x3:o=0
       ·have HR:Hid (rB l1 j o x=true):=hid (by simp [rB,x3];omega)
        have x3':(o==0)=true:=beq_iff_eq.2 x3
        clear x3
        go_wp2_with fail
        go_roundw
        case rel=>exact ⟨a+1,by omega,by go_num,by rw [HS.out,HR.out,HC.out];rfl,hbq⟩
        case measure=>simp [intOf];omega
       have x3':(o==0)=false:=beq_eq_false_iff_ne.2 x3
       by_cases x4:x=(j:Int)
       ·have HR:Hid (rB l1 j o x=true):=hid (by simp [rB,x3,x4];omega)
        have x4':(x==(j:Int))=true:=beq_iff_eq.2 x4
        clear x4 x3
        go_wp2_with fail
        go_roundw
        case rel=>exact ⟨a+1,by omega,by go_num,by rw [HS.out,HR.out,HC.out];rfl,hbq⟩
        case measure=>simp [intOf];omega
       ·have HR:Hid (rB l1 j o x=false):=hid (by simp [rB,x3,x4])
        have x4':(x==(j:Int))=false:=beq_eq_false_iff_ne.2 x4
        clear x4 x3
        go_wp2_with fail
        go_roundw
        case rel=>exact ⟨a+1,by omega,by go_num,by rw [HS.out,HR.out,HC.out];rfl,hbq⟩
        case measure=>simp [intOf];omega
     ·obtain rfl:a=8:=by omega
      rw [List.take_of_length_le (by omega)]
      cases eall:row.all (rB l1 j o) with
      | true=>
       have HA:Hid (Ik l1 j o row=true):=hid (by rw [HB.out,eF.out,eall];rfl)
       clear eall
       go_wp2_with fail
       go_roundw
       case rel=>
        refine ⟨j+1,by omega,by go_num,hbq,hid (fun m hm=>?_)⟩
        by_cases e:m<j
        ·exact HI.out m e
        ·rw [show m=j by omega,HRW.out,HOW.out];exact HA.out
       case measure=>simp [intOf];omega
      | false=>
       have HN:Hid (dC os ls=false):=hid (qH fun e=>by
        have:=HF.out.1 e j hlt
        rw [HRW.out,HOW.out,HB.out,eF.out,eall] at this
        cases this)
       clear eall
       go_wp2_with fail
       go_ret
       exact ⟨by rw [HN.out];rfl,mq⟩
   | false=>
    have HN:Hid (dC os ls=false):=hid (qH fun e=>by
     have:=HF.out.1 e j hlt
     rw [HRW.out,HOW.out,HB.out,hbs] at this
     cases this)
    unfold Rj at hbs
    by_cases e8:rl=8
    ·subst e8
     have r8:decide (row.length=8)=true:=by simp;omega
     rw [r8,Bool.true_and] at hbs
     by_cases y0:0≤o
     ·have y0':decide (0≤o)=true:=by simp;omega
      rw [y0',Bool.true_and] at hbs
      have y2':=hbs
      have y2:¬ o≤2:=by simpa using hbs
      clear hbs
      go_wp2_with fail
      go_loopw [6,5] (fun i s wr=>∃ (a:Nat),a≤8∧i=.int .i64 a∧s=.bool false∧Below (w.heap.size+1) (w.alloc (.cells #[.slice (some ⟨b1,o1,none⟩) l1 c1,.slice (some ⟨b2,o2,none⟩) l1 c2] 37)) wr) (fun i _ _=>8 - (intOf i).toNat)
      case atStart=>exact ⟨0,Nat.zero_le _,rfl,rfl,hb⟩
      case round=>
       obtain ⟨a,ha,rfl,rfl,hbq⟩:=hrel
       have mq:Below w.heap.size w wr:=((Below.refl _ _).alloc (Nat.le_refl _) _).trans (hbq.mono (Nat.le_succ _))
       have crq:=(mq.cell (p:=⟨b2,o2+j,none⟩) hlt2).trans cr
       have p0:=(hbq.cell (p:=⟨w.heap.size,0,none⟩) (Nat.lt_succ_self _)).trans (World.cell?_alloc_new w _ _ 0)
       have p1:=(hbq.cell (p:=⟨w.heap.size,1,none⟩) (Nat.lt_succ_self _)).trans (World.cell?_alloc_new w _ _ 1)
       simp at p0 p1
       by_cases hla:a<8
       ·obtain ⟨b3,o3,rfl,hlt3,hc3⟩:=hr.hcell (by omega)
        have cx:=(mq.cell (p:=⟨b3,o3+a,none⟩) hlt3).trans (hc3 a hla)
        clear hc3 hc1 hc2
        generalize row.getD a 0=x at *
        go_wp2_with fail
        go_roundw
        case rel=>exact ⟨a+1,by omega,by go_num,rfl,hbq⟩
        case measure=>simp [intOf];omega
       ·go_wp2_with fail
        go_ret
        exact ⟨by rw [HN.out];rfl,mq⟩
     ·have y0':decide (0≤o)=false:=by simp;omega
      clear hbs
      go_wp2_with fail
      go_loopw [6,5] (fun i s wr=>∃ (a:Nat),a≤8∧i=.int .i64 a∧s=.bool false∧Below (w.heap.size+1) (w.alloc (.cells #[.slice (some ⟨b1,o1,none⟩) l1 c1,.slice (some ⟨b2,o2,none⟩) l1 c2] 37)) wr) (fun i _ _=>8 - (intOf i).toNat)
      case atStart=>exact ⟨0,Nat.zero_le _,rfl,rfl,hb⟩
      case round=>
       obtain ⟨a,ha,rfl,rfl,hbq⟩:=hrel
       have mq:Below w.heap.size w wr:=((Below.refl _ _).alloc (Nat.le_refl _) _).trans (hbq.mono (Nat.le_succ _))
       have crq:=(mq.cell (p:=⟨b2,o2+j,none⟩) hlt2).trans cr
       have p0:=(hbq.cell (p:=⟨w.heap.size,0,none⟩) (Nat.lt_succ_self _)).trans (World.cell?_alloc_new w _ _ 0)
       have p1:=(hbq.cell (p:=⟨w.heap.size,1,none⟩) (Nat.lt_succ_self _)).trans (World.cell?_alloc_new w _ _ 1)
       simp at p0 p1
       by_cases hla:a<8
       ·obtain ⟨b3,o3,rfl,hlt3,hc3⟩:=hr.hcell (by omega)
        have cx:=(mq.cell (p:=⟨b3,o3+a,none⟩) hlt3).trans (hc3 a hla)
        clear hc3 hc1 hc2
        generalize row.getD a 0=x at *
        go_wp2_with fail
        go_roundw
        case rel=>exact ⟨a+1,by omega,by go_num,rfl,hbq⟩
        case measure=>simp [intOf];omega
       ·go_wp2_with fail
        go_ret
        exact ⟨by rw [HN.out];rfl,mq⟩
    ·have e8':((rl:Int)==8)=false:=beq_eq_false_iff_ne.2 (by omega)
     clear hbs
     go_wp2_with fail
     go_loopw [6,5] (fun i s wr=>∃ (a:Nat),a≤rl∧i=.int .i64 a∧s=.bool false∧Below (w.heap.size+1) (w.alloc (.cells #[.slice (some ⟨b1,o1,none⟩) l1 c1,.slice (some ⟨b2,o2,none⟩) l1 c2] 37)) wr) (fun i _ _=>rl - (intOf i).toNat)
     case atStart=>exact ⟨0,Nat.zero_le _,rfl,rfl,hb⟩
     case round=>
      obtain ⟨a,ha,rfl,rfl,hbq⟩:=hrel
      have mq:Below w.heap.size w wr:=((Below.refl _ _).alloc (Nat.le_refl _) _).trans (hbq.mono (Nat.le_succ _))
      have crq:=(mq.cell (p:=⟨b2,o2+j,none⟩) hlt2).trans cr
      have p0:=(hbq.cell (p:=⟨w.heap.size,0,none⟩) (Nat.lt_succ_self _)).trans (World.cell?_alloc_new w _ _ 0)
      have p1:=(hbq.cell (p:=⟨w.heap.size,1,none⟩) (Nat.lt_succ_self _)).trans (World.cell?_alloc_new w _ _ 1)
      simp at p0 p1
      by_cases hla:a<rl
      ·obtain ⟨b3,o3,rfl,hlt3,hc3⟩:=hr.hcell (by omega)
       have cx:=(mq.cell (p:=⟨b3,o3+a,none⟩) hlt3).trans (hc3 a hla)
       clear hc3 hc1 hc2
       generalize row.getD a 0=x at *
       go_wp2_with fail
       go_roundw
       case rel=>exact ⟨a+1,by omega,by go_num,rfl,hbq⟩
       case measure=>simp [intOf];omega
      ·go_wp2_with fail
       go_ret
       exact ⟨by rw [HN.out];rfl,mq⟩
  ·have HT:Hid (dC os ls=true):=hid (HF.out.2 fun i hi=>HI.out i (by omega))
   go_wp2_with fail
   go_ret
   exact ⟨by rw [HT.out];rfl,hbw⟩
end
def strOf (l:List UInt8):ByteArray:=⟨l.toArray⟩
theorem Md (l m:List UInt8):strOf l++strOf m=strOf (l++m):=by
 apply ByteArray.ext
 simp [strOf,ByteArray.data_append]
theorem Fb (l:List UInt8):(strOf l).size=l.length:=by simp [strOf,ByteArray.size]
theorem Ag (W:World) (x:Int) (h0:0≤x) (h1:x<256):(convert 188 9 (.slice (some ⟨W.heap.size,0,none⟩) 1 1)).run Tryz.prog (W.alloc (.cells #[.int .u8 x] 5))=.ok (.string (strOf [uq x])) (W.alloc (.cells #[.int .u8 x] 5)):=
 run_convert_bytes_back (P:=Tryz.prog) _ 188 9 5 ⟨W.heap.size,0,none⟩ 1 [uq x] Tryz.underlying188 Tryz.underlying5 Tryz.underlying9 (fun k hk=>by
  obtain rfl:k=0:=by simp at hk;omega
  rw [qN]
  simp [xI h0 h1])
theorem Rl (l:List UInt8) (b:UInt8) (hl:l.length≤1000) (W:World):(Op.stringOp .add (strOf l) (strOf [b])).run Tryz.prog W=.ok (.string (strOf (l++[b]))) W:=by
 exact (run_string_add_sum (P:=Tryz.prog) (w:=W) (strOf l) (strOf [b]) (by rw [Fb,Fb];simp;omega)).trans (by rw [Md])
section
variable (a1 a2:Option Addr) (l1 c1 l2 c2:Nat) (os:List Int) (ls:List (List Int)) (w:World)
theorem zY (h1:Ints w a1 l1 c1 os) (h2:Lists w a2 l2 c2 ls):Calls Tryz.prog 41 #[.agg #[.slice a1 l1 c1,.slice a2 l2 c2]] w fun e w'=>e=.returned (.bool (dC os ls))∧Below w.heap.size w w':=by
 by_cases h:l1=0∨8<l1∨l2≠l1
 ·exact Ug a1 a2 l1 c1 l2 c2 os ls w h1 h2 h
 ·have e:l2=l1:=by omega
  subst e
  exact Qr a1 a2 l2 c1 c2 os ls w h1 h2 (by omega) (by omega)
theorem Vq (h1:Ints w a1 l1 c1 os) (h2:Lists w a2 l2 c2 ls) (hf:dC os ls=false) :
  Calls Tryz.prog 56 #[.agg #[.slice a1 l1 c1,.slice a2 l2 c2]] w fun e w'=>e=.returned (.tuple #[.string (iX os ls),.int .i64 (iY os ls)])∧Below w.heap.size w w':=by
 have T:=fun W (b:Below w.heap.size w W)=>zY a1 a2 l1 c1 l2 c2 os ls W (h1.below b) (h2.below b)
 have HE:Hid (iX os ls=⟨#[]⟩∧iY os ls=8):=hid ⟨by simp [iX,hf],by simp [iY,hf]⟩
 rw [hf] at T
 clear hf
 go_enter Tryz.func56,Tryz.ntmps56
 go_wp2_with fail
 refine (T _ ((Below.refl _ _).alloc (Nat.le_refl _) _)).mono ?_
 rintro e w2 ⟨rfl,hb2⟩
 have B2:=hid (((Below.refl w.heap.size w).alloc (Nat.le_refl _) _).trans (hb2.mono (by simp)))
 clear hb2 T
 go_wp2_with fail
 go_ret2
 exact ⟨by rw [HE.out.1,HE.out.2];rfl,B2.out⟩
theorem Sw (h1:Ints w a1 l1 c1 os) (h2:Lists w a2 l2 c2 ls) (hf:dC os ls=true) :
  Calls Tryz.prog 56 #[.agg #[.slice a1 l1 c1,.slice a2 l2 c2]] w fun e w'=>e=.returned (.tuple #[.string (iX os ls),.int .i64 (iY os ls)])∧Below w.heap.size w w':=by
 have T:=fun W (b:Below w.heap.size w W)=>zY a1 a2 l1 c1 l2 c2 os ls W (h1.below b) (h2.below b)
 have HE:Hid (iX os ls=strOf (bytesOf (cK os ls))∧iY os ls=0):=hid ⟨by simp [iX,hf,strOf],by simp [iY,hf]⟩
 have hl:=mr hf
 have h8:=(ui hl.1 hl.2.1).2
 have hz:=lD hl.1
 obtain ⟨hn1,AR,hall⟩:=iw.1 hl.2.2
 rw [hz] at hn1 AR hall
 have L1:=h1.hlen
 have L2:=h2.hlen
 have hle:=hl.1
 obtain rfl:l2=l1:=by omega
 rw [hf] at T
 have HZ:=hid (fun i (hi:i<os.length)=>EU hl.1 hi)
 obtain ⟨b1,o1,rfl,hlt1,hc1⟩:=h1.hcell (by omega)
 obtain ⟨b2,o2,rfl,hlt2,hc2⟩:=h2.hcell (by omega)
 have m1:=h1.hmax
 have m3:=h1.hcap
 have m2:=h2.hmax
 have m4:=h2.hcap
 have CV:=fun (W:World) (x:Int)=>Ag W x
 have wr0:IntKind.u8.wrap (l2:Int)=l2:=wrap_u8 (by omega) (by omega)
 have CV0:=fun (W:World)=>Ag W (l2:Int) (by omega) (by omega)
 have Yl:Hid (strOf [uq (l2:Int)]=strOf (dL (cK os ls) 0)):=hid (by simp [dL,hz,L1])
 clear hf
 go_enter Tryz.func56,Tryz.ntmps56
 go_wp2_with fail
 refine (T _ ((Below.refl _ _).alloc (Nat.le_refl _) _)).mono ?_
 rintro e w2 ⟨rfl,hb2⟩
 have p0:=(hb2.cell (p:=⟨w.heap.size,0,none⟩) (by simp)).trans (World.cell?_alloc_new w _ _ 0)
 have p1:=(hb2.cell (p:=⟨w.heap.size,1,none⟩) (by simp)).trans (World.cell?_alloc_new w _ _ 1)
 simp at p0 p1
 have hbw2:=((Below.refl w.heap.size w).alloc (Nat.le_refl _) _).trans (hb2.mono (by simp))
 have hs2:w.heap.size<w2.heap.size:=World.block_lt_of_cell? _ ⟨w.heap.size,0,none⟩ p0
 have HB2:=hid hbw2
 have uO:=hid hb2
 clear hb2 T CV
 go_wp2_with fail
 rw [Yl.out]
 go_loopw [6,5] (fun i s wr=>∃ (j:Nat),j≤l2∧i=.int .i64 j∧s=.string (strOf (dL (cK os ls) j))∧Below w2.heap.size w2 wr) (fun i _ _=>l2 - (intOf i).toNat)
 case atStart=>exact ⟨0,Nat.zero_le _,rfl,rfl,(Below.refl _ _).alloc (Nat.le_refl _) _⟩
 case round=>
  obtain ⟨j,hj,rfl,rfl,hb⟩:=hrel
  have p0q:=(hb.cell (p:=⟨w.heap.size,0,none⟩) hs2).trans p0
  have p1q:=(hb.cell (p:=⟨w.heap.size,1,none⟩) hs2).trans p1
  have hbw:Below w.heap.size w wr:=HB2.out.trans (hb.mono (by omega))
  by_cases hlt:j<l2
  ·obtain ⟨ra,rl,rc,cr,hr⟩:=hc2 j hlt
   have Xx:=(hbw.cell (p:=⟨b2,o2+j,none⟩) hlt2).trans cr
   have cO:=(hbw.cell (p:=⟨b1,o1+j,none⟩) hlt1).trans (hc1 j hlt)
   have hr8:rl=8:=by rw [←hr.hlen];exact hl.2.1 j (by omega)
   subst hr8
   have nE:=hr.hcap
   have Zm:=hr.hmax
   obtain ⟨b3,o3,rfl,hlt3,hc3⟩:=hr.hcell (by omega)
   have hsm:=Bh (hall j (by omega))
   have lh:=yo h8 (j:=j) (by omega)
   have DJ:=hid (Cf (ss:=cK os ls) (j:=j) (by omega))
   have pG:=oo h8 (i:=j) (by omega)
   rw [HZ.out j (by omega)] at hsm pG DJ
   have HR:Hid (∀ m,m<8→w.cell? ⟨b3,o3+m,none⟩=some (.int .i64 ((ls.getD j []).getD m 0))):=hid hc3
   have xQ:=hid cr
   generalize ls.getD j []=row at *
   generalize os.getD j 0=o at *
   simp only at hsm pG
   have s1:=hsm.1
   have s2:=hsm.2.1
   have Ru:=hid hsm.2.2
   have wU:=hid pG
   have wro:IntKind.u8.wrap o=o:=wrap_u8 s1 (by omega)
   have CVo:=fun (W:World)=>Ag W o s1 (by omega)
   have AD:=Rl (dL (cK os ls) j) (uq o) (by omega)
   have HP0:Hid (dL (cK os ls) j++[uq o]=dL (cK os ls) j++fK ⟨o,row⟩ 0):=hid (by simp [fK])
   clear hc1 hc2 hc3 cr hsm pG hr HZ hall
   generalize dL (cK os ls) j=bs at *
   go_wp2_with fail
   rw [HP0.out]
   go_loopw [7,5] (fun i s wq=>∃ (k:Nat),k≤8∧i=.int .i64 k∧s=.string (strOf (bs++fK ⟨o,row⟩ k))∧Below w2.heap.size w2 wq) (fun i _ _=>8 - (intOf i).toNat)
   case atStart=>exact ⟨0,Nat.zero_le _,rfl,rfl,hb.alloc hb.size _⟩
   case round=>
    obtain ⟨k,hk,rfl,rfl,hbq⟩:=hrel
    by_cases hlk:k<8
    ·have p0q:=(hbq.cell (p:=⟨w.heap.size,0,none⟩) hs2).trans p0
     have p1q:=(hbq.cell (p:=⟨w.heap.size,1,none⟩) hs2).trans p1
     have mq:Below w.heap.size w wr:=HB2.out.trans (hbq.mono (by omega))
     have crq:=(mq.cell (p:=⟨b2,o2+j,none⟩) hlt2).trans xQ.out
     have cx:=(mq.cell (p:=⟨b3,o3+k,none⟩) hlt3).trans (HR.out k hlk)
     have hx:=Ru.out k (by rw [wU.out];exact hlk)
     have Yi:Hid (bs++fK ⟨o,row⟩ k++[uq (row.getD k 0)]=bs++fK ⟨o,row⟩ (k+1)):=hid (by
      rw [Dk (by rw [wU.out];exact hlk),List.append_assoc])
     have hpl:(fK ⟨o,row⟩ k).length=1+k:=Sk (by rw [wU.out];omega)
     generalize fK ⟨o,row⟩ k=sp at *
     generalize row.getD k 0=x at *
     have wrx:IntKind.u8.wrap x=x:=wrap_u8 hx.1 (by omega)
     have CVx:=fun (W:World)=>Ag W x hx.1 (by omega)
     have ADx:=Rl (bs++sp) (uq x) (by rw [List.length_append];omega)
     clear CVo AD CV0
     go_wp2_with fail
     go_roundw
     case rel=>exact ⟨k+1,by omega,by go_num,by rw [←Yi.out,List.append_assoc],hbq.alloc hbq.size _⟩
     case measure=>simp [intOf];omega
    ·obtain rfl:k=8:=by omega
     have HP8:Hid (bs++fK ⟨o,row⟩ 8=dL (cK os ls) (j+1)):=hid (by
      rw [show fK ⟨o,row⟩ 8=nz ⟨o,row⟩ by rw [←wU.out];exact Ff];exact DJ.out.symm)
     go_wp2_with fail
     go_roundw
     case rel=>exact ⟨j+1,by omega,by go_num,by rw [HP8.out],hbq⟩
     case measure=>simp [intOf];omega
  ·obtain rfl:j=l2:=by omega
   have HA:Hid (dL (cK os ls) j=bytesOf (cK os ls)):=hid (by rw [←Du,hz,L1])
   go_wp2_with fail
   go_ret2
   exact ⟨by rw [HE.out.1,HE.out.2,HA.out];rfl,hbw⟩
theorem Sy (h1:Ints w a1 l1 c1 os) (h2:Lists w a2 l2 c2 ls) :
  Calls Tryz.prog 56 #[.agg #[.slice a1 l1 c1,.slice a2 l2 c2]] w fun e w'=>e=.returned (.tuple #[.string (iX os ls),.int .i64 (iY os ls)])∧Below w.heap.size w w':=by
 cases hf:dC os ls with
 | false=>exact Vq a1 a2 l1 c1 l2 c2 os ls w h1 h2 hf
 | true=>exact Sw a1 a2 l1 c1 l2 c2 os ls w h1 h2 hf
end
end Go.Proofs.YtjagijohfkffiabGreat
namespace Go.Proofs.YtjagijohfkffiabGreat.writes
open Go.ChangeShapes Go.WideShapes Go.ChangeAt Go.RowKit Go.Deep
open Go.ChangeMaps (open_string shut_string)
set_option linter.unusedVariables false
theorem TQ (a1 a2:Option Addr) (l1 c1 l2 c2:Nat) (os:List Int) (ls:List (List Int)) (w:World) (h1:Ints w a1 l1 c1 os) (h2:Lists w a2 l2 c2 ls) :
  Calls Tryz.prog 27 #[.agg #[.slice a1 l1 c1,.slice a2 l2 c2]] w fun e w'=>e=.returned (.bool true)∧Below w.heap.size w w':=by
 have C1:=fun W (b:Below w.heap.size w W)=>UJ a1 a2 l1 c1 l2 c2 os ls W (h1.below b) (h2.below b)
 have C2:=fun W (b:Below w.heap.size w W)=>Sy a1 a2 l1 c1 l2 c2 os ls W (h1.below b) (h2.below b)
 generalize iX os ls=v at *
 generalize iY os ls=er at *
 go_enter Tryz.func27,Tryz.ntmps27
 go_wp2_with fail
 refine (C1 _ ((Below.refl _ _).alloc (Nat.le_refl _) _)).mono ?_
 rintro e w1 ⟨rfl,hb1⟩
 have p0:=(hb1.cell (p:=⟨w.heap.size,0,none⟩) (by simp)).trans (World.cell?_alloc_new w _ _ 0)
 have p1:=(hb1.cell (p:=⟨w.heap.size,1,none⟩) (by simp)).trans (World.cell?_alloc_new w _ _ 1)
 simp at p0 p1
 have nL:=((Below.refl w.heap.size w).alloc (Nat.le_refl _) _).trans (hb1.mono (by simp))
 have B1:=hid nL
 clear hb1 C1 nL
 go_wp2_with fail
 refine (C2 _ B1.out).mono ?_
 rintro e w2 ⟨rfl,hb2⟩
 have B:=hid (B1.out.trans (hb2.mono B1.out.size))
 clear C2 hb2 p0 p1
 go_wp2
 all_goals go_ret
 all_goals exact ⟨rfl,B.out⟩
end Go.Proofs.YtjagijohfkffiabGreat.writes
