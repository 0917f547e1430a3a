import Derived.Test.YtjagijohfkffiabGreatFREM36
set_option maxHeartbeats 16000000
set_option maxRecDepth 100000
set_option linter.unusedSimpArgs false
namespace Go.Proofs.YtjagijohfkffiabGreat.watches
open Go.ChangeShapes Go.WideShapes Go.ChangeAt Go.RowKit
open Go.ChangeMaps (open_string shut_string)
set_option linter.unusedVariables false
theorem XM(s:ByteArray)(w:World)(hm:s.size<=maxLen):Calls Tryz.prog 12 #[.string s] w (uL s w):=by
 by_cases h:(aB s).1=0
 ·exact XL s w hm h
 ·exact ZG s w hm h
theorem Vj{ns:List Nd}{ss:List St}{n:Nat}{out:Nat->Nat}{nx:Nat->Nat->Nat}(h:Qn ns ss)(k:Av ns n out nx):ss.length=n/\gT ss n=pK ((List.range n).map out)/\iX ss n=(List.range n).map λi=>pK ((List.range 8).map λl=>nx i l):=by
 obtain⟨aru,nx1,hM,hs⟩:=h;obtain⟨rfl,e1,e2⟩:=I8 hM k;have st:∀ i,i<ss.length->dF ss i=wI (aru i) (nx1 i):=λi hi=>by simp[dF,List.getD,hs i hi]
 refine⟨rfl,?_,?_⟩
 ·unfold gT pK;rw[List.map_map];refine aBP λi hi=>?_;have zB:i<ss.length:=by simpa using hi
  rw[st i zB,e1 i zB];rfl
 ·unfold iX;refine aBP λi hi=>?_;have zB:i<ss.length:=by simpa using hi
  rw[st i zB];have e3:∀ l,l<8->nx1 i l=nx i l:=λl hl=>e2 i l zB hl;simp only[wI,e3 0 (by omega),e3 1 (by omega),e3 2 (by omega),e3 3 (by omega),e3 4 (by omega),e3 5 (by omega),e3 6 (by omega),e3 7 (by omega)];rfl
end Go.Proofs.YtjagijohfkffiabGreat.watches
namespace Go.Proofs.YtjagijohfkffiabGreat
open Go.RowKit
set_option linter.unusedVariables false
def rB(n i:Nat)(o k:Int):Bool:=decide (0<=k)&&decide (k<n)&&(decide (o=0)||decide (k=i))
def WJ(o:Int)(l:List Int):Bool:=decide (l.length=8)&&decide (0<=o)&&decide (o<=2)
def Md(n i:Nat)(o:Int)(l:List Int):Bool:=WJ o l&&l.all (rB n i o)
theorem ahQ{n i:Nat}{o k:Int}(h0:0<=o)(h2:o<=2):rB n i o k=fJ n i (wB o) k:=by
 unfold rB fJ wB;have:o=0\/o=1\/o=2:=by omega
 rcases this with rfl | rfl | rfl <;> simp
theorem Mc{n i:Nat}{o:Int}{l:List Int}:Md n i o l=(decide (l.length=8)&&qf n i ⟨o,l⟩):=by
 unfold Md WJ qf;by_cases h0:0<=o
 ·by_cases h2:o<=2
  ·have e:(rB n i o)=fJ n i (wB o):=funext λk=>ahQ h0 h2;have:o=0\/o=1\/o=2:=by omega
   rw[e];rcases this with rfl | rfl | rfl <;> simp[wB]
  ·simp[wB,h2];intro h h3;omega
 ·simp[wB,h0];intro h h3;omega
theorem Vp{os:List Int}{ls:List (List Int)}(hl:ls.length=os.length)(h1:1<=os.length)(h8:os.length<=8):jm os ls=true↔∀ i,i<os.length->Md os.length i (os.getD i 0) (ls.getD i [])=true:=by
 constructor
 ·intro h i hi;have e:=Ky h;rw[Mc,e.2.1 i (by omega)];have:=(qR.1 e.2.2).2.2 i (by rw[Aw hl];exact hi);rw[Aw hl,Y5 hl hi]at this;rw[this];rfl
 ·intro h;have e2:∀ i,i<ls.length->(ls.getD i []).length=8:=λi hi=>by
   have:=h i (by omega);rw[Mc]at this;simp at this;simpa using this.1
  rw[(OE hl e2).1,qR,Aw hl];refine⟨h1,h8,λi hi=>?_⟩;have:=h i hi;rw[Mc]at this;rw[Y5 hl hi];simp only[aBz]at this;exact this.2
section
variable (a1 a2:Option Addr) (l1 c1 l2 c2:Nat) (os:List Int) (ls:List (List Int)) (w:World)
theorem YJ(h1:Ints w a1 l1 c1 os)(h2:Lists w a2 l2 c2 ls)(h:l1=0\/8<l1\/l2≠l1):Calls Tryz.prog 41 #[.agg #[.slice a1 l1 c1,.slice a2 l2 c2]] w λe w'=>e=.returned (.bool (jm os ls))/\Below w.heap.size w w':=by
 have E:Hid (jm os ls=false):=hid (FI λe=>by
  have e2:=Ky e;have e3:=qR.1 e2.2.2;rw[Aw e2.1,h1.hlen]at e3;have:=e2.1;rw[h1.hlen,h2.hlen]at this;omega)
 have m1:=h1.hmax;have m3:=h1.hcap;have m2:=h2.hmax;have m4:=h2.hcap;by_cases k1:l1=0
 ·subst k1;go_enter Tryz.func41,Tryz.ntmps41;go_wp2_with fail;go_ret;exact⟨by rw[E.out];rfl,(aAW _ _).alloc (aAU _) _⟩
 have q1:((l1:Int)==0)=false:=aA6.2 (by omega);by_cases k2:8<l1
 ·go_enter Tryz.func41,Tryz.ntmps41;go_wp2_with fail;go_ret;exact⟨by rw[E.out];rfl,(aAW _ _).alloc (aAU _) _⟩
 have k3:((l2:Int) !=(l1:Int))=true:=bne_iff_ne.2 (by omega);go_enter Tryz.func41,Tryz.ntmps41;go_wp2_with fail;go_ret;exact⟨by rw[E.out];rfl,(aAW _ _).alloc (aAU _) _⟩
theorem Vo(h1:Ints w a1 l1 c1 os)(h2:Lists w a2 l1 c2 ls)(hp:1<=l1)(h8:l1<=8):Calls Tryz.prog 41 #[.agg #[.slice a1 l1 c1,.slice a2 l1 c2]] w λe w'=>e=.returned (.bool (jm os ls))/\Below w.heap.size w w':=by
 have m1:=h1.hmax;have m3:=h1.hcap;have m2:=h2.hmax;have m4:=h2.hcap;have L1:=h1.hlen;have L2:=h2.hlen;have q1:((l1:Int)==0)=false:=aA6.2 (by omega);have HF:=hid (Vp (os:=os) (ls:=ls) (by omega) (by omega) (by omega));rw[L1]at HF;obtain⟨b1,o1,rfl,iw,hc1⟩:=h1.hcell (by omega);obtain⟨b2,o2,rfl,gu,yx⟩:=h2.hcell (by omega);go_enter Tryz.func41,Tryz.ntmps41;go_wp2_with fail
 go_loopw [4] (λi wr=>∃ (j:Nat),j<=l1/\i=.int .i64 j/\Below (w.heap.size+1) (w.alloc (.cells #[.slice (some ⟨b1,o1,none⟩) l1 c1,.slice (some ⟨b2,o2,none⟩) l1 c2] 37)) wr/\Hid (∀ m,m<j->Md l1 m (os.getD m 0) (ls.getD m [])=true)) (λi _=>l1 - (intOf i).toNat)
 case atStart=>exact⟨0,aA8 _,rfl,aAW _ _,hid (λm hm=>by omega)⟩
 case round=>
  obtain⟨j,hj,rfl,hb,HI⟩:=hrel;have ib:Below w.heap.size w wr:=((aAW _ _).alloc (aAU _) _).trans (hb.mono (Nat.le_succ _));by_cases hlt:j<l1
  ·obtain⟨ra,rl,rc,cr,hr⟩:=yx j hlt;have cr':=(ib.cell (p:=⟨b2,o2+j,none⟩) gu).trans cr;have cO:=(ib.cell (p:=⟨b1,o1+j,none⟩) iw).trans (hc1 j hlt);have p0:=(hb.cell (p:=⟨w.heap.size,0,none⟩) (aBs _)).trans (aBQ w _ _ 0);have p1:=(hb.cell (p:=⟨w.heap.size,1,none⟩) (aBs _)).trans (aBQ w _ _ 1);simp at p0 p1;have rl':=hr.hlen;have qF:=hr.hcap;have axO:=hr.hmax;have aku:=hc1 j hlt;have HB:Hid (Md l1 j (os.getD j 0) (ls.getD j [])=(WJ (os.getD j 0) (ls.getD j [])&&(ls.getD j []).all (rB l1 j (os.getD j 0)))):=hid rfl;generalize hrow:ls.getD j []=row at *;generalize ho:os.getD j 0=o at *;have Ir:=hid hrow;have Ec:=hid ho;clear hrow ho;have HO:=hid (aku:w.cell? ⟨b1,o1+j,none⟩=some (.int .i64 o));clear aku;cases kC:WJ o row with
   | true=>
    have gq:=hid kC;unfold WJ at kC;simp only[aBz,aBR]at kC;obtain⟨⟨e8,y0⟩,y2⟩:=kC;obtain rfl:rl=8:=by omega
    have y0':decide (0<=o)=true:=by simp;omega
    have y2':decide (o<=2)=true:=by simp;omega
    go_wp2_with fail
    go_loopw [6,5] (λi s wr=>∃ (a:Nat),a<=8/\i=.int .i64 a/\s=.bool ((row.take a).all (rB l1 j o))/\Below (w.heap.size+1) (w.alloc (.cells #[.slice (some ⟨b1,o1,none⟩) l1 c1,.slice (some ⟨b2,o2,none⟩) l1 c2] 37)) wr) (λi _ _=>8 - (intOf i).toNat)
    case atStart=>exact⟨0,aA8 _,rfl,by simp,hb⟩
    case round=>
     obtain⟨a,ha,rfl,rfl,dm⟩:=hrel;have pY:Below w.heap.size w wr:=((aAW _ _).alloc (aAU _) _).trans (dm.mono (Nat.le_succ _));have crq:=(pY.cell (p:=⟨b2,o2+j,none⟩) gu).trans cr;have cOq:=(pY.cell (p:=⟨b1,o1+j,none⟩) iw).trans HO.out;have p0:=(dm.cell (p:=⟨w.heap.size,0,none⟩) (aBs _)).trans (aBQ w _ _ 0);have p1:=(dm.cell (p:=⟨w.heap.size,1,none⟩) (aBs _)).trans (aBQ w _ _ 1);simp at p0 p1;by_cases sH:a<8
     ·obtain⟨b3,o3,rfl,EY,Ff⟩:=hr.hcell (by omega);have cx:=(pY.cell (p:=⟨b3,o3+a,none⟩) EY).trans (Ff a sH);have HS:Hid ((row.take (a+1)).all (rB l1 j o)=((row.take a).all (rB l1 j o)&&rB l1 j o (row.getD a 0))):=hid (by
       rw[List.take_succ_eq_append_getElem (show a<row.length by omega),List.all_append,List.all_cons,List.all_nil,Bool.and_true];simp[List.getD,aAV (show a<row.length by omega)])
      clear Ff;generalize row.getD a 0=x at *;cases ecur:(row.take a).all (rB l1 j o) with
      | false=>
       have HC:=hid ecur;clear ecur;go_wp2_with fail;go_roundw
       case rel=>exact⟨a+1,by omega,by go_num,by rw[HS.out,HC.out];rfl,dm⟩
       case measure=>simp[intOf];omega
      | true=>
       have HC:=hid ecur;clear ecur;by_cases x1:x<0
       ·have HR:Hid (rB l1 j o x=false):=hid (by simp[rB];omega);have El:decide (0<=x)=false:=by simp;omega
        go_wp2_with fail;go_roundw
        case rel=>exact⟨a+1,by omega,by go_num,by rw[HS.out,HR.out,HC.out];rfl,dm⟩
        case measure=>simp[intOf];omega
       by_cases x2:(l1:Int)<=x
       ·have HR:Hid (rB l1 j o x=false):=hid (by simp[rB];omega);have El:decide (0<=x)=true:=by simp;omega
        have Qp:decide (x<(l1:Int))=false:=by simp;omega
        go_wp2_with fail;go_roundw
        case rel=>exact⟨a+1,by omega,by go_num,by rw[HS.out,HR.out,HC.out];rfl,dm⟩
        case measure=>simp[intOf];omega
       have El:decide (0<=x)=true:=by simp;omega
       have Qp:decide (x<(l1:Int))=true:=by simp;omega
       by_cases x3:o=0
       ·have HR:Hid (rB l1 j o x=true):=hid (by simp[rB,x3];omega);have x3':(o==0)=true:=beq_iff_eq.2 x3;clear x3;go_wp2_with fail;go_roundw
        case rel=>exact⟨a+1,by omega,by go_num,by rw[HS.out,HR.out,HC.out];rfl,dm⟩
        case measure=>simp[intOf];omega
       have x3':(o==0)=false:=aA6.2 x3;by_cases x4:x=(j:Int)
       ·have HR:Hid (rB l1 j o x=true):=hid (by simp[rB,x3,x4];omega);have x4':(x==(j:Int))=true:=beq_iff_eq.2 x4;clear x4 x3;go_wp2_with fail;go_roundw
        case rel=>exact⟨a+1,by omega,by go_num,by rw[HS.out,HR.out,HC.out];rfl,dm⟩
        case measure=>simp[intOf];omega
       ·have HR:Hid (rB l1 j o x=false):=hid (by simp[rB,x3,x4]);have x4':(x==(j:Int))=false:=aA6.2 x4;clear x4 x3;go_wp2_with fail;go_roundw
        case rel=>exact⟨a+1,by omega,by go_num,by rw[HS.out,HR.out,HC.out];rfl,dm⟩
        case measure=>simp[intOf];omega
     ·obtain rfl:a=8:=by omega
      rw[List.take_of_length_le (by omega)];cases eall:row.all (rB l1 j o) with
      | true=>
       have HA:Hid (Md l1 j o row=true):=hid (by rw[HB.out,gq.out,eall];rfl);clear eall;go_wp2_with fail;go_roundw
       case rel=>
        refine⟨j+1,by omega,by go_num,dm,hid (λm hm=>?_)⟩;by_cases e:m<j
        ·exact HI.out m e
        ·rw[show m=j by omega,Ir.out,Ec.out];exact HA.out
       case measure=>simp[intOf];omega
      | false=>
       have HN:Hid (jm os ls=false):=hid (FI λe=>by
        have:=HF.out.1 e j hlt;rw[Ir.out,Ec.out,HB.out,gq.out,eall]at this;cases this)
       clear eall;go_wp2_with fail;go_ret;exact⟨by rw[HN.out];rfl,pY⟩
   | false=>
    have HN:Hid (jm os ls=false):=hid (FI λe=>by
     have:=HF.out.1 e j hlt;rw[Ir.out,Ec.out,HB.out,kC]at this;cases this)
    unfold WJ at kC;by_cases e8:rl=8
    ·subst e8;have r8:decide (row.length=8)=true:=by simp;omega
     rw[r8,Bool.true_and]at kC;by_cases y0:0<=o
     ·have y0':decide (0<=o)=true:=by simp;omega
      rw[y0',Bool.true_and]at kC;have y2':=kC;have y2:¬ o<=2:=by simpa using kC
      clear kC;go_wp2_with fail
      go_loopw [6,5] (λi s wr=>∃ (a:Nat),a<=8/\i=.int .i64 a/\s=.bool false/\Below (w.heap.size+1) (w.alloc (.cells #[.slice (some ⟨b1,o1,none⟩) l1 c1,.slice (some ⟨b2,o2,none⟩) l1 c2] 37)) wr) (λi _ _=>8 - (intOf i).toNat)
      case atStart=>exact⟨0,aA8 _,rfl,rfl,hb⟩
      case round=>
       obtain⟨a,ha,rfl,rfl,dm⟩:=hrel;have pY:Below w.heap.size w wr:=((aAW _ _).alloc (aAU _) _).trans (dm.mono (Nat.le_succ _));have crq:=(pY.cell (p:=⟨b2,o2+j,none⟩) gu).trans cr;have p0:=(dm.cell (p:=⟨w.heap.size,0,none⟩) (aBs _)).trans (aBQ w _ _ 0);have p1:=(dm.cell (p:=⟨w.heap.size,1,none⟩) (aBs _)).trans (aBQ w _ _ 1);simp at p0 p1;by_cases sH:a<8
       ·obtain⟨b3,o3,rfl,EY,Ff⟩:=hr.hcell (by omega);have cx:=(pY.cell (p:=⟨b3,o3+a,none⟩) EY).trans (Ff a sH);clear Ff hc1 yx;generalize row.getD a 0=x at *;go_wp2_with fail;go_roundw
        case rel=>exact⟨a+1,by omega,by go_num,rfl,dm⟩
        case measure=>simp[intOf];omega
       ·go_wp2_with fail;go_ret;exact⟨by rw[HN.out];rfl,pY⟩
     ·have y0':decide (0<=o)=false:=by simp;omega
      clear kC;go_wp2_with fail
      go_loopw [6,5] (λi s wr=>∃ (a:Nat),a<=8/\i=.int .i64 a/\s=.bool false/\Below (w.heap.size+1) (w.alloc (.cells #[.slice (some ⟨b1,o1,none⟩) l1 c1,.slice (some ⟨b2,o2,none⟩) l1 c2] 37)) wr) (λi _ _=>8 - (intOf i).toNat)
      case atStart=>exact⟨0,aA8 _,rfl,rfl,hb⟩
      case round=>
       obtain⟨a,ha,rfl,rfl,dm⟩:=hrel;have pY:Below w.heap.size w wr:=((aAW _ _).alloc (aAU _) _).trans (dm.mono (Nat.le_succ _));have crq:=(pY.cell (p:=⟨b2,o2+j,none⟩) gu).trans cr;have p0:=(dm.cell (p:=⟨w.heap.size,0,none⟩) (aBs _)).trans (aBQ w _ _ 0);have p1:=(dm.cell (p:=⟨w.heap.size,1,none⟩) (aBs _)).trans (aBQ w _ _ 1);simp at p0 p1;by_cases sH:a<8
       ·obtain⟨b3,o3,rfl,EY,Ff⟩:=hr.hcell (by omega);have cx:=(pY.cell (p:=⟨b3,o3+a,none⟩) EY).trans (Ff a sH);clear Ff hc1 yx;generalize row.getD a 0=x at *;go_wp2_with fail;go_roundw
        case rel=>exact⟨a+1,by omega,by go_num,rfl,dm⟩
        case measure=>simp[intOf];omega
       ·go_wp2_with fail;go_ret;exact⟨by rw[HN.out];rfl,pY⟩
    ·have e8':((rl:Int)==8)=false:=aA6.2 (by omega);clear kC;go_wp2_with fail
     go_loopw [6,5] (λi s wr=>∃ (a:Nat),a<=rl/\i=.int .i64 a/\s=.bool false/\Below (w.heap.size+1) (w.alloc (.cells #[.slice (some ⟨b1,o1,none⟩) l1 c1,.slice (some ⟨b2,o2,none⟩) l1 c2] 37)) wr) (λi _ _=>rl - (intOf i).toNat)
     case atStart=>exact⟨0,aA8 _,rfl,rfl,hb⟩
     case round=>
      obtain⟨a,ha,rfl,rfl,dm⟩:=hrel;have pY:Below w.heap.size w wr:=((aAW _ _).alloc (aAU _) _).trans (dm.mono (Nat.le_succ _));have crq:=(pY.cell (p:=⟨b2,o2+j,none⟩) gu).trans cr;have p0:=(dm.cell (p:=⟨w.heap.size,0,none⟩) (aBs _)).trans (aBQ w _ _ 0);have p1:=(dm.cell (p:=⟨w.heap.size,1,none⟩) (aBs _)).trans (aBQ w _ _ 1);simp at p0 p1;by_cases sH:a<rl
      ·obtain⟨b3,o3,rfl,EY,Ff⟩:=hr.hcell (by omega);have cx:=(pY.cell (p:=⟨b3,o3+a,none⟩) EY).trans (Ff a sH);clear Ff hc1 yx;generalize row.getD a 0=x at *;go_wp2_with fail;go_roundw
       case rel=>exact⟨a+1,by omega,by go_num,rfl,dm⟩
       case measure=>simp[intOf];omega
      ·go_wp2_with fail;go_ret;exact⟨by rw[HN.out];rfl,pY⟩
  ·have HT:Hid (jm os ls=true):=hid (HF.out.2 λi hi=>HI.out i (by omega));go_wp2_with fail;go_ret;exact⟨by rw[HT.out];rfl,ib⟩
end
section
variable (a1 a2:Option Addr) (l1 c1 l2 c2:Nat) (os:List Int) (ls:List (List Int)) (w:World)
theorem YK(h1:Ints w a1 l1 c1 os)(h2:Lists w a2 l2 c2 ls):Calls Tryz.prog 41 #[.agg #[.slice a1 l1 c1,.slice a2 l2 c2]] w λe w'=>e=.returned (.bool (jm os ls))/\Below w.heap.size w w':=by
 by_cases h:l1=0\/8<l1\/l2≠l1
 ·exact YJ a1 a2 l1 c1 l2 c2 os ls w h1 h2 h
 ·have e:l2=l1:=by omega
  subst e;exact Vo a1 a2 l2 c1 c2 os ls w h1 h2 (by omega) (by omega)
end
attribute [local go_sem ↓] Go.wp_at_zero Go.wp_at_succ
def tail(s:ByteArray)(a:Nat):ByteArray:=s.extract a s.size
theorem tail_size(s:ByteArray)(a:Nat):(tail s a).size=s.size - a:=by simp[tail,ByteArray.size_extract]
theorem ahi(s:ByteArray)(a i:Nat):bt (tail s a) i=bt s (a+i):=by
 by_cases h:a+i<s.size
 ·have h2:i<(tail s a).size:=by rw[tail_size];omega
  rw[gL h,gL h2];simp[tail,ByteArray.getElem_extract]
 ·have h2:¬ i<(tail s a).size:=by rw[tail_size];omega
  rw[Ga h,Ga h2]
theorem Zq(s:ByteArray)(a k:Nat):(tail s a).extract k (tail s a).size=tail s (a+k):=by
 apply ByteArray.ext;rw[tail_size];simp[tail,ByteArray.data_extract,Array.extract_extract];congr 1;have:s.data.size=s.size:=rfl;omega
theorem U4{s:ByteArray}{n i:Nat}(hi:i<n):dF (cK s n) i=ut s i:=by simp[dF,cK,List.getD,aBk,aBx hi]
theorem aiL(ss:List St):lF (gT ss ss.length) (iX ss ss.length)=ss:=by
 apply List.ext_getElem?;intro i;by_cases h:i<ss.length
 ·have h1:i<(lF (gT ss ss.length) (iX ss ss.length)).length:=by simp[lF,gT,iX];exact h
  rw[aAV h1,aAV h];simp[lF,gT,iX,dF,List.getD,aAV h]
 ·rw[List.getElem?_eq_none (by simp[lF,gT,iX];omega),List.getElem?_eq_none (by omega)]
theorem abg{ss:List St}(h8:lU ss):jm (gT ss ss.length) (iX ss ss.length)=oq ss:=by
 have:=(OE (os:=gT ss ss.length) (ls:=iX ss ss.length) (by simp[gT,iX]) (λi hi=>by
  have zA:i<ss.length:=by simpa [iX] using hi
  rw[show (iX ss ss.length).getD i []=(dF ss i).next by simp[iX,List.getD,aBk,aBx zA]];exact Jq h8 zA)).1
 rw[this,aiL]
theorem Nf{s:ByteArray}(h:0<s.size):(s.toList==[])=false:=by
 rw[ByteArray.toList_eq];have:s.data.toList.length=s.size:=rfl;cases e:s.data.toList with
 | nil=>rw[e]at this;simp at this;omega
 | cons a l=>rfl
theorem Zn{s:ByteArray}(h:s.size=0):(s.toList==[])=true:=by
 rw[ByteArray.toList_eq];have:s.data.toList.length=s.size:=rfl;cases e:s.data.toList with
 | nil=>rfl
 | cons a l=>rw[e]at this;simp at this;omega
theorem Y9{m:Nat}(h:m<=1000):IntKind.i64.wrap (m:Int)=(m:Int):=by
 have:(m:Int) % 18446744073709551616=m:=by omega
 simp[IntKind.wrap,IntKind.bits,IntKind.signed];omega
def Zr:Value->Nat
 | .string b=>b.size
 | _=>0
section
variable (s:ByteArray) (w:World)
theorem XO(h:s.size=0):Calls Tryz.prog 14 #[.string s] w (jF s w):=by
 have E:Hid (gI s=false):=hid (uw λe=>by have:=(xX e).1;omega);have HV:Hid (iH s=9):=hid (by unfold iH;rw[E.out];rfl);have hs:s=⟨#[]⟩:=by
  apply ByteArray.ext;exact Array.eq_empty_of_size_eq_zero h
 have HS:=hid hs;have t:=dD w (.slice none 0 0) (.slice none 0 0) 37;have c0:=t.c0;have c1:=t.c1;subst hs;go_enter Tryz.func14,Tryz.ntmps14;go_wp2_with fail;refine bodyPost_ret (v:=.tuple #[.agg #[.slice none 0 0,.slice none 0 0],.int .i64 9]) (by simp[results,Tryz.results14,go_sem]) rfl ?_;unfold jF;rw[HV.out];exact⟨(((aAW w.heap.size w).alloc (aAU _) _)),_,_,rfl,aA2 ⟨E.out,rfl,rfl⟩⟩
theorem XN(hm:s.size<=1048576)(h:0<s.size)(N:Nat)(hN1:1+N*9<=s.size)(hN2:s.size<1+N*9+9):Calls Tryz.prog 14 #[.string s] w (jF s w):=by
 obtain⟨i0,hi,aR,aP,aN⟩:=info_parts Tryz.uB;obtain⟨i1,iC,fe,eZ,eY⟩:=info_parts Tryz.Je;have hne:=Nf h;go_enter Tryz.func14,Tryz.ntmps14;go_wp2_with fail;generalize hT1:s.extract 1 s.size=T1;have uf:Hid (T1=tail s (1+0*9)):=hid hT1.symm;clear hT1 hne
 go_loopw [5] (λr wr=>∃ (j:Nat) (v1 v2:Value) (V:Nat->Value),j<=N/\r=.string (tail s (1+j*9))/\Below w.heap.size w wr /\
   Two wr w.heap.size (.slice none 0 0) (.slice none 0 0)/\Two wr (w.heap.size+1) v1 v2/\Hid (lu wr (w.heap.size+2) v1 v2 V (cK s N) j)) (λr _=>Zr r)
 case atStart=>
  refine⟨0,_,_,λ_=>.bool false,aA8 _,by rw[uf.out],((aAW _ _).alloc (aAU _) _).alloc (by simp) _,?_,?_,hid (NJ _ _ _ _)⟩
  ·exact(dD w _ _ _).below ((aAW (w.heap.size+1) _).alloc (by simp) _) (aBs _)
  ·have:=dD (w.alloc (.cells #[.slice none 0 0,.slice none 0 0] 37)) (.slice none 0 0) (.slice none 0 0) 37;simpa using this
 case round=>
  obtain⟨j,v1,v2,V,hj,rfl,hb,q0,q1,HL⟩:=hrel;rename World=>W0;have Lh:=tail_size s (1+j*9);have kS:=hid (λi=>ahi s (1+j*9) i);have WQ:=hid (Zq s (1+j*9) 9);by_cases hlt:j<N
  ·have hst:=U4 (s:=s) (n:=N) hlt;have mI:=hid hst;have ht9:9<=(tail s (1+j*9)).size:=by rw[Lh];omega
   have htm:(tail s (1+j*9)).size<=1048576:=by rw[Lh];omega
   have iF:=hid (Ho (cK s N) j);have hM:=q1.lt;have HQ0:=hid q0;have PD:=hid q1;have Li:Hid ((tail s (1+(j+1)*9)).size<(tail s (1+j*9)).size):=hid (by rw[tail_size,tail_size];omega);have uf:Hid (tail s (1+j*9+9)=tail s (1+(j+1)*9)):=hid (by congr 1;omega);clear Lh q0 q1 hst;generalize tail s (1+j*9)=t at *;have kd:decide ((9:Int)<=(t.size:Int))=true:=by simp;omega
   have kd2:decide (9<=t.size)=true:=by simp;omega
   go_wp2_with fail
   go_loopw [7,6] (λi sv wq=>∃ (k:Nat),k<=8/\i=.int .i64 k/\Below W0.heap.size W0 wq /\
     Hid (wq.ownsRow W0.heap.size 3 1 sv k (gJ ((ut s j).next.take k)))) (λi _ _=>8 - (intOf i).toNat)
   case atStart=>exact⟨0,aA8 _,rfl,aAW _ _,hid (aBh _ _ _ _)⟩
   case round=>
    obtain⟨k,hk,rfl,dm,HO⟩:=hrel;have hsz:=dm.size;by_cases hlk:k<8
    ·have ET:1+k<t.size:=by omega
     have IK:(t[1+k]'ET).toNat=bt s (1+j*9+(1+k)):=by rw[<-gL ET];exact kS.out (1+k)
     have kx:=nD s (1+j*9+(1+k));have HT:Hid (gJ ((ut s j).next.take k)++[.int .i64 (bt s (1+j*9+(1+k)):Int)]=gJ ((ut s j).next.take (k+1))):=hid (by
      have:k<(ut s j).next.length:=by rw[Co];exact hlk
      have e:=Zv s j hlk;rw[show 1+j*9+1+k=1+j*9+(1+k) by omega]at e;unfold gJ;rw[List.take_succ_eq_append_getElem this,aBE,<-e];simp[List.getD,aAV this])
     generalize bt s (1+j*9+(1+k))=x at *;have own:=HO.out;go_wp2_with (at_builtin;go_must (refine wpList_append_own _ rfl (.tmp 21) (.tmp 27) 22 rfl _ 3 i0 (.int .i64 0) 1 8 Tryz.underlying22 hi aR aP aN rfl (by decide) _ _ _ rfl (own.alloc _) ⟨wr.heap.size,0,none⟩ 1 1 [.int .i64 x] rfl rfl ?c1 ?c2 ?c3 ?c4 ?c5 ?_))
     case c1=>exact eu _ [_] _
     case c2=>intro u hu;simp at hu;subst hu;rfl
     case c3=>unfold maxLen;omega
     case c4=>omega
     case c5=>simp;omega
     intro v' w1 hown hgrow _;have B1:=hid ((dm.alloc hsz _).grown hgrow (by simp;omega) (λk h=>(own.lt k h).1));rw[HT.out]at hown;have O1:=hid hown;clear hown hgrow own HO IK dm;go_wp2_with fail;go_roundw
     case rel=>exact⟨k+1,by omega,by go_num,B1.out,O1⟩
     case measure=>simp[intOf];omega
    ·obtain rfl:k=8:=by omega
     have O6:=HO.out;rw[List.take_of_length_le (by rw[Co];exact aAU _),<-mI.out]at O6;have L:=HL.out.keeps dm;obtain⟨g6,wD,rfl,hg6,asc,hc6⟩:=AV O6 (by decide);have h6:=bJ O6 (B':=w.heap.size+2) (by omega);have tK:∀ i,i<j->(V i).ownBlock≠(Value.slice (some ⟨g6,0,none⟩) 8 wD).ownBlock:=λi hi e=>by
      have:=(((HL.out).row i hi).lt g6 e).2;omega
     have Oh:v1.ownBlock≠(Value.slice (some ⟨g6,0,none⟩) 8 wD).ownBlock:=λe=>by
      have:=((HL.out).out.lt g6 e).2;omega
     have t0:=HQ0.out.below dm (by omega);have t1:=PD.out.below dm hM;have h0t:0<t.size:=by omega
     have IK:(t[0]'h0t).toNat=bt s (1+j*9):=by rw[<-gL h0t];exact kS.out 0
     have kx:=nD s (1+j*9);have HOO:Hid ((dF (cK s N) j).out=(bt s (1+j*9):Int)):=hid (by rw[mI.out];rfl);rw[HOO.out]at iF;clear HOO;generalize bt s (1+j*9)=o at *;have k0:=t1.c0;have BB:=hid (hb.trans (dm.mono hb.size));have HL6:=hid h6;have Uo:=hid tK;have Xe:=hid Oh;have qw:=hid L;have T0:=hid t0;have T1:=hid t1;have l1:=L.out;clear h6 tK Oh L O6 HO t0 t1 HQ0 PD HL kS;go_wp2_with fail;have hMw:w.heap.size+1<wr.heap.size:=by omega
     have wro:IntKind.i64.wrap (o:Int)=(o:Int):=Y9 (by omega)
     go_region_law ((refine aBN _ (by rfl) (.tmp 30) (.tmp 34) 22 (by rfl) (w.heap.size+2) 3 i0 (.int .i64 0) 1 8 Tryz.underlying22 hi aR aP aN rfl (by decide) v1 j (gJ (gT (cK s N) j)) (by rfl) (l1.alloc _).drew ⟨wr.heap.size,0,none⟩ 1 1 [.int .i64 o] (by rfl) (by rfl) (World.news_of_block (cs:=#[.int .i64 o]) (t:=3) (fr:=(0,0)) (heap_alloc_last wr _)) (by simp[Value.oneCell']) (by decide) (by unfold maxLen;omega) (by omega) (by simp;omega) _ rfl ?_;intro gg cc w1 hown hgrow hat iw;have vR:Below (w.heap.size+2) wr w1:=(aBd ((aAW (w.heap.size+2) wr).alloc (by omega) (.cells #[.int .i64 o] 3)) 1).grown hgrow (by show w.heap.size+2<=(wr.alloc (.cells #[.int .i64 o] 3)).heap.size;rw[aAZ];omega) (λk h=>(l1.lt k h).1);have d0:=(T1.out.below vR (by omega)).c0;have d1:=(T1.out.below vR (by omega)).f0))
     all_goals
      rw[<-iF.out]at hown;have M:=aab (qw.out.keeps (w':=(wr.alloc (.cells #[.int .i64 o] 3)).drew) (aBd ((aAW _ _).alloc (aAU _) _) 1)) (HL6.out.alloc _).drew Uo.out Xe.out hgrow hown (by rcases hat with e | e;exact aA2 e;exact aA3 (by rw[e]));have s0:=T0.out.below vR (by omega);have s1:=T1.out.below vR (by omega);have nV:=vR.size;have M2:=hid (M.set (k:=w.heap.size+1) (by omega) 0 (.slice (some ⟨gg,0,none⟩) (j+1) cc));have U0:=hid (s0.other (k:=w.heap.size+1) (o:=0) (by omega) (.slice (some ⟨gg,0,none⟩) (j+1) cc));have u1:=s1.set0 (.slice (some ⟨gg,0,none⟩) (j+1) cc);have U1:=hid u1;have k1:=u1.c1;have BB1:=hid ((BB.out.trans (vR.mono (by omega))).setCell (p:=⟨w.heap.size+1,0,none⟩) (by show w.heap.size<=w.heap.size+1;omega) (.slice (some ⟨gg,0,none⟩) (j+1) cc));have n1:=M2.out.nS;have hws:w.heap.size+2<=w1.heap.size:=by omega
      clear hown hgrow hat M s0 s1 u1 vR l1 k0 d0 d1;go_wp2_with (at_builtin;go_must (refine aBw _ rfl (.tmp 38) (.tmp 40) 23 rfl (w.heap.size+2) 22 i1 (.slice none 0 0) 1 24 Tryz.underlying23 iC fe eZ eY rfl (by decide) _ _ _ rfl (n1.alloc _) ⟨w1.heap.size,0,none⟩ 1 1 [.slice (some ⟨g6,0,none⟩) 8 wD] rfl rfl ?d1 ?d2 (by decide) ?d3 ?d4 ?d5 _ rfl ?_))
      case d1=>exact λm u h=>by have:=eu (w1.setCell ⟨w.heap.size+1,0,none⟩ (.slice (some ⟨gg,0,none⟩) (j+1) cc)) [.slice (some ⟨g6,0,none⟩) 8 wD] 22 m u h;rw[aBj]at this;exact this
      case d2=>intro u hu;simp at hu;subst hu;rfl
      case d3=>unfold maxLen;omega
      case d4=>omega
      case d5=>simp;omega
      intro g2 kE w2 hown hgrow hat gu;have bR:=((aAW (w.heap.size+2) _).alloc (by rw[aBj];exact hws) _).grown hgrow (by rw[aAZ,aBj];omega) (λk h=>(n1.lt k h).1);have L2:=VQ (M2.out.alloc _) hgrow hown;have s0:=U0.out.below bR (by omega);have s1:=U1.out.below bR (by omega);have L3:=hid (L2.set (k:=w.heap.size+1) (by omega) 1 (.slice (some ⟨g2,0,none⟩) (j+1) kE));have V0:=hid (s0.other (k:=w.heap.size+1) (o:=1) (by omega) (.slice (some ⟨g2,0,none⟩) (j+1) kE));have V1:=hid (s1.set1 (.slice (some ⟨g2,0,none⟩) (j+1) kE));have e0:=s1.c1;have e1:=s1.f1;have UN:=hid ((BB1.out.trans (bR.mono (by omega))).setCell (p:=⟨w.heap.size+1,1,none⟩) (by show w.heap.size<=w.heap.size+1;omega) (.slice (some ⟨g2,0,none⟩) (j+1) kE));clear hown hgrow hat L2 s0 s1 bR n1 k1 IK;go_wp2_with fail;go_roundw
      case rel=>exact⟨j+1,_,_,_,by omega,by rw[WQ.out,uf.out],UN.out,V0.out,V1.out,L3⟩
      case measure=>simp[Zr];omega
  ·obtain rfl:j=N:=by omega
   have h8:=uq s j;have hlen:=oF s j;have HFT:=abg h8;rw[hlen]at HFT;obtain⟨a1,rE,Oa,hI⟩:=HL.out.ints;obtain⟨a2,kE,hv2,hLs⟩:=HL.out.lists;subst Oa hv2;have F:=YK a1 a2 j rE j kE _ _ W0 hI hLs;rw[HFT]at F;have IK:(s[0]'h).toNat=bt s 0:=(gL h).symm;have kx:=nD s 0;have kd:decide ((9:Int)<=((tail s (1+j*9)).size:Int))=false:=by rw[Lh];simp;omega
   have kd2:decide (9<=(tail s (1+j*9)).size)=false:=by rw[Lh];simp;omega
   have htm:(tail s (1+j*9)).size<=1048576:=by rw[Lh];omega
   have WU:Hid (gI s=true->(tail s (1+j*9)).size=0/\bt s 0=j/\oq (cK s j)=true):=hid (λe=>by
    have e2:=xX e;have e3:bt s 0=j:=by omega
    refine⟨by rw[Lh];omega,e3,?_⟩;rw[<-e3];exact e2.2.2)
   have HRY:Hid ((tail s (1+j*9)).size=0->bt s 0=j->oq (cK s j)=true->gI s=true):=hid (λe1 e2 e3=>by
    rw[Lh]at e1;unfold gI;rw[e2,e3];simp;omega)
   have y0:=q1.c0;have y1:=q1.c1;have qw:=hid HL.out;have hMw:=q1.lt;clear Lh WQ kS HFT hI hLs HL;generalize tail s (1+j*9)=t at *;cases ev:oq (cK s j) with
   | false=>
    rw[ev]at F;have HE:Hid (gI s=false):=hid (uw λe=>by have:=(WU.out e).2.2;rw[ev]at this;cases this);have HV:Hid (iH s=9):=hid (by unfold iH;rw[HE.out];rfl);clear ev;go_wp2_with fail;refine F.mono ?_;rintro e w2 ⟨rfl,ak⟩;have B2:=hid (hb.trans (ak.mono hb.size));have t2:=q0.below ak q0.lt;have t4:=q1.below ak q1.lt;have c0:=t2.c0;have c1:=t2.c1;have f0:=t2.f0;have f1:=t2.f1;have m0:=t4.c0;clear ak t2 t4 q0 q1;generalize bt s 0=cnt at *;clear F;go_wp2_with fail
    go_quiet (fail)
    go_wp2_with fail;refine bodyPost_ret (v:=.tuple #[.agg #[.slice none 0 0,.slice none 0 0],.int .i64 9]) (by simp[results,Tryz.results14,go_sem,c0,c1]) rfl ?_;unfold jF;rw[HV.out];exact⟨((aBd B2.out _).setCell (p:=⟨w.heap.size,0,none⟩) (aAU _) _).setCell (p:=⟨w.heap.size,1,none⟩) (aAU _) _,_,_,rfl,aA2 ⟨HE.out,rfl,rfl⟩⟩
   | true=>
    rw[ev]at F;by_cases RA:t.size=0
    ·have hne:=Zn RA;by_cases hc:bt s 0=j
     ·have HR:=hid (HRY.out RA hc ev);have HV:Hid (iH s=0):=hid (by unfold iH;rw[HR.out];rfl);have HC:=hid hc;have IK2:(s[0]'h).toNat=j:=by rw[IK];exact hc
      have hj8:j<256:=by omega
      clear ev RA IK hc;go_wp2_with fail;refine F.mono ?_;rintro e w2 ⟨rfl,ak⟩;have B2:=hid (hb.trans (ak.mono hb.size));have t2:=q0.below ak q0.lt;have t4:=q1.below ak q1.lt;have L2:=qw.out.keeps ak;have c0:=t2.c0;have c1:=t2.c1;have f0:=t2.f0;have f1:=t2.f1;have m0:=t4.c0;have m1:=t4.c1;have Yt:(t.toList !=[])=false:=by simpa [bne] using hne
      have hM2:=t4.lt;clear ak q0 q1 F;have aeh:w.heap.size<w.heap.size+2:=by omega
      have oo:=hid (λn=>((L2.keeps (aBd (aAW w2.heap.size w2) n)).set (k:=w.heap.size) aeh 0 (.slice a1 j rE)).set (k:=w.heap.size) aeh 1 (.slice a2 j kE));clear t2 t4 L2;go_wp2_with fail
      go_quiet (fail)
      go_wp2_with fail;refine bodyPost_ret (v:=.tuple #[.agg #[.slice a1 j rE,.slice a2 j kE],.int .i64 0]) (by simp[results,Tryz.results14,go_sem,c0,c1]) rfl ?_;unfold jF;rw[HV.out,HC.out];exact⟨((aBd B2.out _).setCell (p:=⟨w.heap.size,0,none⟩) (aAU _) _).setCell (p:=⟨w.heap.size,1,none⟩) (aAU _) _,_,_,rfl,aA3 ⟨HR.out,V,(oo.out _).mono (by omega)⟩⟩
     ·have HE:Hid (gI s=false):=hid (uw λe=>hc (WU.out e).2.1);have HV:Hid (iH s=9):=hid (by unfold iH;rw[HE.out];rfl);have Yt:(t.toList !=[])=false:=by simpa [bne] using hne
      clear ev RA;go_wp2_with fail;refine F.mono ?_;rintro e w2 ⟨rfl,ak⟩;have B2:=hid (hb.trans (ak.mono hb.size));have t2:=q0.below ak q0.lt;have t4:=q1.below ak q1.lt;have c0:=t2.c0;have c1:=t2.c1;have f0:=t2.f0;have f1:=t2.f1;have m0:=t4.c0;clear ak t2 t4 q0 q1;generalize bt s 0=cnt at *;have kc:((j:Int) !=(cnt:Int))=true:=bne_iff_ne.2 (by omega);clear F;go_wp2_with fail
      go_quiet (fail)
      go_wp2_with fail;refine bodyPost_ret (v:=.tuple #[.agg #[.slice none 0 0,.slice none 0 0],.int .i64 9]) (by simp[results,Tryz.results14,go_sem,c0,c1]) rfl ?_;unfold jF;rw[HV.out];exact⟨((aBd B2.out _).setCell (p:=⟨w.heap.size,0,none⟩) (aAU _) _).setCell (p:=⟨w.heap.size,1,none⟩) (aAU _) _,_,_,rfl,aA2 ⟨HE.out,rfl,rfl⟩⟩
    ·have hne:=Nf (s:=t) (by omega);have Yt:(t.toList !=[])=true:=by simpa [bne] using hne
     have HE:Hid (gI s=false):=hid (uw λe=>RA (WU.out e).1);have HV:Hid (iH s=9):=hid (by unfold iH;rw[HE.out];rfl);clear ev;go_wp2_with fail;refine F.mono ?_;rintro e w2 ⟨rfl,ak⟩;have B2:=hid (hb.trans (ak.mono hb.size));have t2:=q0.below ak q0.lt;have t4:=q1.below ak q1.lt;have c0:=t2.c0;have c1:=t2.c1;have f0:=t2.f0;have f1:=t2.f1;have m0:=t4.c0;clear ak t2 t4 q0 q1;generalize bt s 0=cnt at *;clear F;go_wp2_with fail
     go_quiet (fail)
     go_wp2_with fail;refine bodyPost_ret (v:=.tuple #[.agg #[.slice none 0 0,.slice none 0 0],.int .i64 9]) (by simp[results,Tryz.results14,go_sem,c0,c1]) rfl ?_;unfold jF;rw[HV.out];exact⟨((aBd B2.out _).setCell (p:=⟨w.heap.size,0,none⟩) (aAU _) _).setCell (p:=⟨w.heap.size,1,none⟩) (aAU _) _,_,_,rfl,aA2 ⟨HE.out,rfl,rfl⟩⟩
theorem ZJ(hm:s.size<=1048576):Calls Tryz.prog 14 #[.string s] w (jF s w):=by
 by_cases h:s.size=0
 ·exact XO s w h
 ·exact XN s w hm (by omega) ((s.size - 1) / 9) (by omega) (by omega)
end
end Go.Proofs.YtjagijohfkffiabGreat
namespace Go.Proofs.YtjagijohfkffiabGreat.reads
open Go.ChangeShapes Go.WideShapes Go.ChangeAt Go.RowKit
open Go.ChangeMaps (open_string shut_string)
set_option linter.unusedVariables false
theorem XT{s:ByteArray}{w:World}{e:Ending}{w':World}(h:jF s w e w'):∃ a1 l1 c1 a2 l2 c2 os ls,e=.returned (.tuple #[.agg #[.slice a1 l1 c1,.slice a2 l2 c2],.int .i64 (iH s)])/\Below w.heap.size w w' /\
  Ints w' a1 l1 c1 os/\Lists w' a2 l2 c2 ls/\l1=(if gI s=true then bt s 0 else 0)/\l2=(if gI s=true then bt s 0 else 0)/\os=(if gI s=true then gT (cK s (bt s 0)) (bt s 0) else [])/\ls=(if gI s=true then iX (cK s (bt s 0)) (bt s 0) else []):=by
 obtain⟨hb,v1,v2,he,⟨hr,rfl,rfl⟩ | ⟨hr,V,L⟩⟩:=h
 ·refine⟨none,0,0,none,0,0,[],[],he,hb,⟨rfl,aAU _,by omega,λ_=>⟨rfl,rfl⟩,λh=>by omega⟩,⟨rfl,aAU _,by omega,λ_=>⟨rfl,rfl⟩,λh=>by omega⟩,?_⟩;simp[hr]
 ·obtain⟨a1,c1,rfl,hI⟩:=L.ints;obtain⟨a2,c2,rfl,hL⟩:=L.lists;refine⟨a1,_,c1,a2,_,c2,_,_,he,hb,hI,hL,?_⟩;simp[hr]
