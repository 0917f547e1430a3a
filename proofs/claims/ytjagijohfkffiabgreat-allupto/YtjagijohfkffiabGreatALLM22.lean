import Derived.Test.YtjagijohfkffiabGreatALLM19
import Derived.Test.YtjagijohfkffiabGreatALLM21
set_option maxHeartbeats 16000000
set_option maxRecDepth 100000
set_option linter.unusedSimpArgs false
namespace Go.Proofs.YtjagijohfkffiabGreat
open Go.RowKit
set_option linter.unusedVariables false
def ve(l:List Nat):List Int:=l.map λx:Nat=>(x:Int)
theorem LB(l:List Nat):aI l=ji (ve l):=by simp[aI,ji,ve]
theorem abg{w:World}{B n:Nat}{v:Value}{V:Nat->Value}{xs:List Nat}(h:fZ w B 22 3 v n V (λq=>aI (mO xs q))):∃ a c,v=.slice a n c/\Lists w a n c ((List.range n).map λi=>ve (mO xs i)):=by
 have d:((List.range n).map λi=>ve (mO xs i)).length=n:=by simp
 rcases h.out.2 with⟨rfl,rfl⟩ | ⟨g,cap,cur,rfl,hb,hh,hc,hm,_⟩
 ·exact⟨none,0,rfl,d,aB2 _,by omega,λ_=>⟨rfl,rfl⟩,λh=>by omega⟩
 ·refine⟨_,cap,rfl,d,hc,by unfold maxLen at hm;omega,λh=>by simp at h,λ_=>⟨g,0,rfl,(aCu.1 hh).1,λi b=>?_⟩⟩;have e:=h.row i b;rw[ny,zg,LB]at e;obtain⟨a,c,f,j⟩:=zK e;refine⟨a,8,c,?_,?_⟩
  ·rw[aCw,h.out.cellAt i (by omega)];simp[aCs,aCF b,f]
  ·rw[show ((List.range n).map λi=>ve (mO xs i)).getD i []=ve (mO xs i) by simp[List.getD,aCs,aCF b]];exact j
def wW(s:ByteArray)(w:World)(e:Ending)(w':World):Prop:=
 ∃ v1 v2 er,e=.returned (.tuple #[.agg #[v1,v2],.int .i64 (er:Nat)])/\((af s).1≠0->er=(af s).1/\v1=.slice none 0 0/\v2=.slice none 0 0) /\
  ((af s).1=0->(er=0/\∃ n out nx,EF (af s).2 n out nx/\n<=8/\(∃ a c,v1=.slice a n c/\Ints w' a n c (ve ((List.range n).map out)))/\∃ a c,v2=.slice a n c/\Lists w' a n c ((List.range n).map λi=>ve ((List.range 8).map λl=>nx i l)))\/(er=7/\v1=.slice none 0 0/\v2=.slice none 0 0/\Big (af s).2))/\Below w.heap.size w w'
def VK(out:Nat->Nat)(ms os:List Nat)(k:Nat):Prop:=os.length=k/\∀ i,i<k->os.getD i 0=out (uI ms i)
theorem ajA{out:Nat->Nat}{ms os:List Nat}{k n:Nat}(h:VK out ms os k)(hk:k<=ms.length):VK out (ms++[n]) os k:=⟨h.1,λi hi=>by
 rw[h.2 i hi];unfold uI;rw[fF (by omega)]⟩
theorem ajz{out:Nat->Nat}{ms os:List Nat}{k m:Nat}(h:VK out ms os k)(hm:ms[k]?=some m):VK out ms (os++[out m]) (k+1):=⟨by simp[h.1],λi hi=>by
 by_cases c:i=k
 ·subst c;have:=h.1;rw[<-this,dV];simp[uI,List.getD,this,hm]
 ·rw[fF (by rw[h.1];omega)];exact h.2 i (by omega)⟩
theorem Dt{w w':World}{b:Nat}{x y:Value}{r:Option Nat}(h:Two w b x y)(hg:w.grownBy w' r)(hne:r≠some b):Two w' b x y:=by
 have c:=hg.block b h.lt (λe=>hne e.symm);exact⟨(aCn (a:=⟨b,0,none⟩) c).trans h.c0,(aCn (a:=⟨b,1,none⟩) c).trans h.c1,(aCo (a:=⟨b,0,none⟩) c).trans h.f0,(aCo (a:=⟨b,1,none⟩) c).trans h.f1⟩
section
variable (s:ByteArray) (w:World)
theorem abj(hm:s.size<=maxLen)(h:(af s).1≠0):Calls Tryz.prog 12 #[.string s] w (wW s w):=by
 have C:=λW=>fe s W hm;unfold dF at C;unfold wW;generalize af s=p at *;have k:((p.1:Int) !=0)=true:=by rw[bne_iff_ne];omega
 go_enter Tryz.func12,Tryz.ntmps12;go_wp2_with fail;refine(C _).mono ?_;rintro e j ⟨c,⟨_,rfl⟩ | ⟨d,_⟩⟩
 ·simp only[aB7]at c;have a:=(bY w (.slice none 0 0) (.slice none 0 0) 37).below c (by omega);have f:=a.c0;have g:=a.c1;have l:=a.f0;have m:=a.f1;have i:=hid (((aB4 w.heap.size w).alloc (aB2 _) (.cells #[.slice none 0 0,.slice none 0 0] 37)).trans (c.mono (by omega)));clear C c a;go_wp2_with fail;refine dS (cs:=[.slice none 0 0,.slice none 0 0]) (v:=.int .i64 (p.1:Nat)) (b:=w.heap.size) Tryz.results12 ?_ ?_ ?_ ?_ Tryz.underlying37 rfl Tryz.wO ?_
  ·rfl
  ·rfl
  ·rfl
  ·exact wG f g _ _
  ·exact⟨_,_,p.1,rfl,λ_=>⟨rfl,rfl,rfl⟩,λd=>absurd d h,(i.out.setCell (p:=⟨w.heap.size,0,none⟩) (aB2 _) _).setCell (p:=⟨w.heap.size,1,none⟩) (aB2 _) _⟩
 ·exact absurd d h
theorem Zh(hm:s.size<=maxLen)(h:(af s).1=0):Calls Tryz.prog 12 #[.string s] w (wW s w):=by
 have C:=λW=>fe s W hm;unfold dF at C;have G:=hid (iM h);have SG:=hid (AR h);unfold wW;generalize af s=p at *;obtain⟨p1,ns⟩:=p;dsimp only at *;subst h;obtain⟨aa,kY⟩:=ab1 ns (aW ns ns.length);have mJ:=hid kY;have rC:=hid (λus xs (h:gU ns aa (aL ns aa) us xs)=>Ac G.out SG.out kY h);obtain⟨i0,I,aT,aP,aO⟩:=info_parts Tryz.mE;obtain⟨i1,jU,gJ,gI,gG⟩:=info_parts Tryz.wP;clear kY;go_enter Tryz.func12,Tryz.ntmps12;go_wp2_with fail;refine(C _).mono ?_;rintro e w1 ⟨hb,⟨h0,_⟩ | ⟨_,bs,rfl,hf⟩⟩
 ·exact absurd rfl h0
 simp only[aB7]at hb hf;have T1:=hid ((bY w (.slice none 0 0) (.slice none 0 0) 37).below hb (by omega));have aK:=hid (((aB4 w.heap.size w).alloc (aB2 _) (.cells #[.slice none 0 0,.slice none 0 0] 37)).trans (hb.mono (by omega)));have hs1:w.heap.size<w1.heap.size:=T1.out.lt;obtain⟨gp,cap,zX⟩:=Rz hf G.out.pos;have RW:=hid (DI _ gp cap ns bs w1 zX G.out);clear C hb hf zX;go_wp2_with fail;refine RW.out.mono ?_;rintro e w3 ⟨R,vs,rfl,Mf,Ff,hM,aA⟩;have JJ:=hid Mf;have IE:=hid Ff;have bF:=hid (aK.out.trans (aA.mono (by omega)));have T3:=hid (T1.out.below aA (by omega));have qQ:=T3.out.lt;clear Mf Ff aA RW aK T1;go_wp2_with fail;refine(UQ R _ gp cap ns bs vs aa w3 JJ.out G.out hM mJ.out IE.out rC.out).mono ?_;rintro e w4 ⟨us,ys,rfl,hE,hx,Yc,dB⟩;have hK:=rC.out us ys hE;have uC:0<us.length:=(aB9.1 hE.first).1
 have rY:=hid (zn hE hx);have HWM:=hid (λms xs h he=>aer (ms:=ms) (xs:=xs) G.out mJ.out hE hx h he);have dW:=hid (bF.out.trans (dB.mono (by omega)));have T4:=hid (T3.out.below dB (by omega));have Bd:=T4.out.lt;have Am:=hid Yc;generalize dD ns aa (aL ns aa) us=out at *;generalize hKE:us.length=K at *;clear hE hx Yc dB bF T3 JJ hKE;go_wp2_with fail;refine(adD w3.heap.size K out ys w4 Am.out uC hK rY.out).mono ?_;rintro e f ⟨vt,tb,t,rfl,hTB,hti,bi⟩;have HTI:=hid hti;have II:=hid (Am.out.below bi);have fH:=hid (dW.out.trans (bi.mono (by omega)));have T5:=hid (T4.out.below bi (by omega));have vB:=T5.out.lt;obtain⟨aot,cpt,rfl⟩:=ak hTB.out;have lq:=hid hTB;clear hTB hti bi Am dW T4;obtain⟨vO0,f1,CX,xY,rfl,Ef,qw⟩:=II.out.c1;obtain⟨vX,f2,aoX,agH,rfl,ahq,Ba⟩:=II.out.c2;have hP:=II.out.lt;have Ug:((List.range K).map out).length=K:=by simp
 rw[Ug]at f1 Ef qw;obtain⟨Y,rfl,Bh,Fa⟩:=qw uC;obtain⟨gX,rfl,XY,PY⟩:=Ba uC;have uN:Hid (∀ x,x<K->f.cell? ⟨Y,x,none⟩=some (.int .i64 (out x:Nat))):=hid (λx hx=>by
  have h9:=Fa x hx;rw[show bZ ((List.range K).map out) x=out x by simp[bZ,List.getD,hx]]at h9;exact h9)
 have HXC:Hid (∀ x,x<K->∃ gR Ch,f.cell? ⟨gX,x,none⟩=some (.slice (some ⟨gR,0,none⟩) 8 Ch)/\gR<f.heap.size/\∀ a,a<8->f.cell? ⟨gR,a,none⟩=some (.int .i64 (aZ ys x a:Nat))):=hid (λx hx=>by
  obtain⟨r,hr,aoR,Ch,rfl,hcR,qR⟩:=PY x hx;rw[zg]at hr hcR qR;obtain⟨gR,rfl,P8,T⟩:=qR (by omega);exact⟨gR,Ch,hr,P8,λa ha=>by have h9:=T a ha;rw[Tf ys ha]at h9;exact h9⟩)
 clear qw Ba Fa PY II;generalize aZ ys=nx at *;go_wp2_with fail;have bA:=(aB4 f.heap.size f).alloc (aB2 _) (.cells #[.int .i64 0] 3);have bB:=hid (bA.alloc (by simp) (.cells #[.slice none 0 0,.slice none 0 0] 37));have OM0:=hid ((XC (w:=f) (cs:=#[.int .i64 0]) (t:=3) (n:=1) (size:=1) rfl (by unfold maxLen;omega)).alloc (.cells #[.slice none 0 0,.slice none 0 0] 37));have TW0:=bY (f.alloc (.cells #[.int .i64 0] 3)) (.slice none 0 0) (.slice none 0 0) 37;rw[show (f.alloc (.cells #[.int .i64 0] 3)).heap.size=f.heap.size+1 by simp]at TW0;have TW0:=hid TW0;clear bA
 go_loopw [8,10] (λvM x wq=>∃ (k:Nat) (ms xs os:List Nat) (N vN:Value) (V:Nat->Value),x=.int .i64 k/\k<=ms.length/\xs.length=8*k/\Hid (Fu out nx K ms xs)/\Hid (VK out ms os k)/\Hid (wq.ownsRow f.heap.size 3 1 vM ms.length (aI ms))/\Hid (vM.ownBlock≠some (f.heap.size+1))/\Hid (Two wq (f.heap.size+1) N vN)/\Hid (wq.ownsRow (f.heap.size+2) 3 1 N k (aI os))/\Hid (N.ownBlock=none\/N.ownBlock≠vM.ownBlock)/\Hid (fZ wq (f.heap.size+2) 22 3 vN k V (λq=>aI (mO xs q)))/\Hid (∀ i,i<k->(V i).ownBlock≠vM.ownBlock/\(V i).ownBlock≠N.ownBlock)/\Hid (Below f.heap.size f wq)/\f.heap.size+2<=wq.heap.size) (λ_ x _=>796594190 - (intOf x).toNat)
 case atStart=>exact⟨0,[0],[],[],_,_,λ_=>.slice none 0 0,rfl,by simp,rfl,hid (aaL uC),hid ⟨rfl,λi h=>by omega⟩,OM0,hid (by simp[Value.ownBlock]),TW0,hid (aCp _ _ _ _),hid (aCa rfl),hid (uk _ _ _ _ _ _),hid (λi h=>by omega),bB,by simp⟩
 case round=>
  obtain⟨k,ms,xs,os,N,vN,V,rfl,hk,Bb,HE,jg,HM,VX,HT,HO,HOM,Z,HD,U,hsz⟩:=hrel;rename World=>W0;clear bB OM0 TW0;have hmK:=Nt HE.out;obtain⟨aoM,cpM,hvM⟩:=ak HM.out;by_cases hlk:k<ms.length
  ·obtain⟨m0,hm0⟩:∃ m0,ms[k]?=some m0:=⟨ms[k],aB3 hlk⟩;have jq:=hid hm0;have af2:=HE.out.lt m0 (aCJ hm0);obtain⟨gR,Ch,xr,P8,xv⟩:=HXC.out m0 af2;have HXR:=hid xr;have HXV:=hid xv;have Dc:=hid (λi (I:i<k) q (h:(V i).ownBlock=some q)=>((Z.out.row i I).lt q h).2);have VV:=hid (λq (h:N.ownBlock=some q)=>(HO.out.lt q h).2);have HNB:=hid (λq (h:vN.ownBlock=some q)=>(Z.out.out.lt q h).2);clear hm0 xr xv;subst hvM;go_wp2_with fail
   go_loopw [8,11,12] (λvM vL x wq=>∃ (l:Nat) (ms xs:List Nat),x=.int .i64 l/\l<=8/\xs.length=8*k+l/\Hid (ms[k]?=some m0)/\Hid (Fu out nx K ms xs)/\Hid (VK out ms os k)/\Hid (wq.ownsRow f.heap.size 3 1 vM ms.length (aI ms))/\Hid (vM.ownBlock≠some (f.heap.size+1))/\Hid (Two wq (f.heap.size+1) N vN)/\Hid (wq.ownsRow (f.heap.size+2) 3 1 N k (aI os))/\Hid (N.ownBlock=none\/N.ownBlock≠vM.ownBlock)/\Hid (fZ wq (f.heap.size+2) 22 3 vN k V (λq=>aI (mO xs q)))/\Hid (∀ i,i<k->(V i).ownBlock≠vM.ownBlock/\(V i).ownBlock≠N.ownBlock)/\Hid (wq.ownsRow W0.heap.size 3 1 vL l (aI (xs.drop (8*k))))/\Hid (vL.ownBlock=none\/vL.ownBlock≠vM.ownBlock)/\Hid (Below f.heap.size f wq)/\W0.heap.size<=wq.heap.size) (λ_ _ x _=>8 - (intOf x).toNat)
   case atStart=>exact⟨0,ms,xs,rfl,by omega,by omega,jq,HE,jg,HM,VX,HT,HO,HOM,Z,HD,by rw[List.drop_of_length_le (by omega)];exact hid (aCp _ _ _ _),hid (aCa rfl),U,aB2 _⟩
   case round=>
    obtain⟨l,ms,xs,rfl,hl8,Bb,jq,HE,jg,HM,VX,HT,HO,HOM,Z,HD,Dj,qC,U,jT⟩:=hrel;rename World=>W3;obtain⟨azM,Cf,rfl⟩:=ak HM.out;have Uq:=(aB9.1 jq.out).1;have azl:=Nt HE.out;obtain⟨L,eM,azv,ama,hcM⟩:=eZ HM.out (by omega);subst eM;have c1:W3.cell? ⟨L,k,none⟩=some (.int .i64 (m0:Nat)):=by
     rw[HM.out.cellAt k (by omega)];simp[aI,aCs,jq.out]
    by_cases jI:l<8
    ·have p2:=(U.out.cell (p:=⟨w3.heap.size,2,none⟩) hP).trans f2;have xr:=(U.out.cell (p:=⟨gX,m0,none⟩) XY).trans HXR.out;have xv:=(U.out.cell (p:=⟨gR,l,none⟩) P8).trans (HXV.out l jI);have hnK:=rY.out m0 l af2 jI;have CE:xs.length / 8=k/\xs.length % 8=l:=by omega
     have VP:=hid (λ(j m1:Nat) (hj:ms[j]?=some m1) O=>aiJ HE.out (m0:=m0) (j:=j) (m1:=m1) (by rw[CE.1];exact jq.out) hj (by rw[CE.2];exact O));have HWN:=hid (λhall=>aiK HE.out (m0:=m0) (by rw[CE.1];exact jq.out) (by rw[CE.2];exact hnK) (by rw[CE.2];exact hall));rw[CE.2]at HWN;generalize nx m0 l=n at *;have c1':∀ m,(W3.drewN m).cell? ⟨L,k,none⟩=some (.int .i64 (m0:Nat)):=λm=>c1;go_wp2_with fail
     go_quiet (fail)
     have bq:=aCl (aB4 W3.heap.size W3) nq;have HM4:=hid (ai HM.out bq);have QP:=hid (HT.out.below bq HT.out.lt);have JL:=hid (ai HO.out bq);have HN4:=hid (Z.out.keeps bq);have HL4:=hid (ai Dj.out bq);have Wo:=hid (aCl U.out nq);have as7:W0.heap.size<=(W3.drewN nq).heap.size:=jT;clear bq c1 c1' p2 xr xv HM HT HO Z Dj U ama;generalize W3.drewN nq=W4 at *;go_wp2_with fail;refine(afG _ K n _ _ tb t ms W4 (lq.out.keeps Wo.out) hnK hK (Cw HM4.out) (by omega) HE.out.lt).mono ?_;rintro e w6 ⟨nE,mm,rfl⟩;have bq:=aCl (aB4 W4.heap.size W4) mm;have IC:=hid (ai HM4.out bq);have M0:=hid (QP.out.below bq QP.out.lt);have VT:=hid (ai JL.out bq);have JM:=hid (HN4.out.keeps bq);have Di:=hid (ai HL4.out bq);have Dm:=hid (aCl Wo.out mm);have as6:W0.heap.size<=(W4.drewN mm).heap.size:=as7;clear bq HM4 QP JL HN4 HL4 Wo;generalize W4.drewN mm=W5 at *;have VW:=VX;have VU:=HOM;have YM:=HD;have EJ:=qC;have HTN:=hid (λm (hm:m<K)=>HTI.out n m hnK hm);rcases nE with⟨j,m1,rfl,hj,htf⟩ | ⟨rfl,hall⟩
     ·have ati:=HE.out.lt m1 (aCJ hj);have hjl:=(aB9.1 hj).1;have HEx:=hid (VP.out j m1 hj (aCx λhne=>by
       rw[(HTN.out m1 ati).2 hne]at htf;cases htf))
      have ag2:=jq;have agY:=jg;have jn:¬ ((j:Int)<0):=by omega
      clear hj htf VP HWN;obtain⟨P,Q,rfl⟩:=ak Di.out;have nJ:=hid (λq h=>(Di.out.lt q h).1);go_wp2_with (at_builtin;go_must (refine aCE _ rfl (.tmp 65) (.tmp 67) 22 rfl W0.heap.size 3 i0 (.int .i64 0) 1 8 Tryz.underlying22 I aT aP aO rfl (by decide) _ l (aI (xs.drop (8*k))) rfl (Di.out.alloc _) ⟨W5.heap.size,0,none⟩ 1 1 [.int .i64 (j:Nat)] rfl rfl (dH W5 [.int .i64 (j:Nat)] _) (by intro y hy;simp at hy;rcases hy with rfl;rfl) (by decide) (by unfold maxLen;omega) (by omega) (by simp;omega) (W5.heap.size+1) (by simp) ?_));intro u H w7 g d D qj;have E:=(aB4 W5.heap.size W5).alloc (aB2 _) (.cells #[.int .i64 (j:Nat)] 3);have uz:W5.heap.size<=w7.heap.size:=by
       have:=d.size;simp at this;omega
      have UH:(Value.slice P l Q).ownBlock≠some (f.heap.size+1):=λe=>by have:=nJ.out _ e;omega
      have T7:=hid (Dt (M0.out.below E M0.out.lt) d UH);have hML:(Value.slice (some ⟨L,0,none⟩) ms.length Cf).ownBlock=none\/(Value.slice (some ⟨L,0,none⟩) ms.length Cf).ownBlock≠(Value.slice P l Q).ownBlock:=by
       rcases EJ.out with h | h
       ·rw[h];cases (Value.slice (some ⟨L,0,none⟩) ms.length Cf).ownBlock <;> simp
       ·exact aCb λe=>h e.symm
      have M7:=hid ((ai IC.out E).kept d hML);have far:∀ q,q<W0.heap.size->some q≠(Value.slice P l Q).ownBlock:=λq O e=>by have:=nJ.out q e.symm;omega
      have O7:=hid ((ai VT.out E).kept d (by
       cases T:N.ownBlock with
       | none=>exact aCa rfl
       | some q=>exact aCb (far q (VV.out q T))))
      have N7:=(JM.out.keeps E).xk d (aY (JM.out.keeps E).out (Di.out.alloc (.cells #[.int .i64 (j:Nat)] 3)) (by decide)) (λq O=>by
       cases T:(V q).ownBlock with
       | none=>exact aCa rfl
       | some z=>exact aCb (far z (Dc.out q O z T)))
      have N7:Hid (fZ w7 (f.heap.size+2) 22 3 vN k V (λq=>aI (mO (xs++[j]) q))):=hid ⟨N7.out,λq O=>by
       rw[J9 (by omega)];exact N7.row q O⟩
      have L7:Hid (w7.ownsRow W0.heap.size 3 1 (.slice (some ⟨u,0,none⟩) (l+1) H) (l+1) (aI ((xs++[j]).drop (8*k)))):=hid (by
       rw[List.drop_append_of_le_length (by omega),show aI (xs.drop (8*k)++[j])=aI (xs.drop (8*k))++[.int .i64 (j:Nat)] by simp[aI]];exact g)
      have LM7:Hid ((Value.slice (some ⟨u,0,none⟩) (l+1) H).ownBlock=none\/(Value.slice (some ⟨u,0,none⟩) (l+1) H).ownBlock≠(Value.slice (some ⟨L,0,none⟩) ms.length Cf).ownBlock):=hid (aCb λe=>by
       have M:(Value.slice (some ⟨L,0,none⟩) ms.length Cf).ownBlock=some u:=e.symm;rcases D with h | h
       ·rcases EJ.out with h2 | h2
        ·rw[h]at h2;cases h2
        ·exact h2 (by rw[h,M])
       ·have:=(IC.out.lt u M).2;omega)
      have jE:=hid ((Dm.out.alloc Dm.out.size (.cells #[.int .i64 (j:Nat)] 3)).grown d (by have:=Dm.out.size;simp;omega) (λq h=>by have:=nJ.out q h;omega));clear g d D E IC M0 VT JM Di EJ Dm hML far;go_wp2_with fail;go_roundw
      case rel=>exact⟨l+1,ms,xs++[j],by go_num,by omega,by rw[aCd,aCv];omega,ag2,HEx,agY,M7,VW,T7,O7,VU,N7,YM,L7,LM7,jE,by omega⟩
      case measure=>simp[intOf];omega
     ·have HEn:=hid (HWN.out (λm hm hlk=>(HTN.out m (HE.out.lt m hm)).1 (hall m hm) hlk));have ath:=Nt HEn.out;rw[aCd,aCv]at ath;clear hall VP HWN;have HMB:=hid (λq h=>(IC.out.lt q h).1);have HMs:=hid (λq (h:(Value.slice (some ⟨L,0,none⟩) ms.length Cf).ownBlock=some q)=>(IC.out.lt q h).2);go_wp2_with (at_builtin;go_must (refine aCE _ rfl (.tmp 61) (.tmp 63) 22 rfl f.heap.size 3 i0 (.int .i64 0) 1 8 Tryz.underlying22 I aT aP aO rfl (by decide) _ ms.length (aI ms) rfl (IC.out.alloc _) ⟨W5.heap.size,0,none⟩ 1 1 [.int .i64 (n:Nat)] rfl rfl (dH W5 [.int .i64 (n:Nat)] _) (by intro y hy;simp at hy;rcases hy with rfl;rfl) (by decide) (by unfold maxLen;omega) (by omega) (by have:=Dm.out.size;simp;omega) (W5.heap.size+1) (by simp) ?_));intro g9 c9 w9 g d D atn;have E:=(aB4 W5.heap.size W5).alloc (aB2 _) (.cells #[.int .i64 (n:Nat)] 3);have hs9:W5.heap.size<=w9.heap.size:=by
       have:=d.size;simp at this;omega
      have OLt:=hid (λq (h:N.ownBlock=some q)=>(VT.out.lt q h).2);have VLt:=hid (λi (I:i<k) q (h:(V i).ownBlock=some q)=>((JM.out.row i I).lt q h).2);have LLt:=hid (λq (h:u11.ownBlock=some q)=>(Di.out.lt q h).2);have amn:=M0.out.lt;have T9:=hid (Dt (M0.out.below E amn) d VW.out);have O9:=hid ((ai VT.out E).kept d VU.out);have N9:=hid ((JM.out.keeps E).xk d (aY (JM.out.keeps E).out (IC.out.alloc (.cells #[.int .i64 (n:Nat)] 3)) (by decide)) (λq O=>aCb (YM.out q O).1));have L9:=hid ((ai Di.out E).kept d EJ.out);have M9:Hid (w9.ownsRow f.heap.size 3 1 (.slice (some ⟨g9,0,none⟩) (ms.length+1) c9) (ms++[n]).length (aI (ms++[n]))):=hid (by
       rw[aCd,show aI (ms++[n])=aI ms++[.int .i64 (n:Nat)] by simp[aI]];exact g)
      have o:∀ q,q<W5.heap.size->q≠L->q≠g9:=λq O hne e=>by
       rcases D with h | h
       ·exact hne (e.trans (Option.some.inj h).symm)
       ·omega
      have MT9:Hid ((Value.slice (some ⟨g9,0,none⟩) (ms.length+1) c9).ownBlock≠some (f.heap.size+1)):=hid (λe=>o _ amn (λM=>VW.out (by rw[M];rfl)) (Option.some.inj e).symm);have OM9:Hid (N.ownBlock=none\/N.ownBlock≠(Value.slice (some ⟨g9,0,none⟩) (ms.length+1) c9).ownBlock):=hid (by
       rcases VU.out with h | h
       ·exact aCa h
       ·cases T:N.ownBlock with
        | none=>exact aCa rfl
        | some q=>exact aCb λe=>o q (OLt.out q T) (λM=>h (by rw[T,M];rfl)) (Option.some.inj e))
      have D9:Hid (∀ i,i<k->(V i).ownBlock≠(Value.slice (some ⟨g9,0,none⟩) (ms.length+1) c9).ownBlock/\(V i).ownBlock≠N.ownBlock):=hid (λi I=>⟨λe=>by
       have M:(V i).ownBlock=some g9:=e;exact o g9 (VLt.out i I g9 M) (λe3=>(YM.out i I).1 (by rw[M,e3];rfl)) rfl,(YM.out i I).2⟩)
      have LM9:Hid (u11.ownBlock=none\/u11.ownBlock≠(Value.slice (some ⟨g9,0,none⟩) (ms.length+1) c9).ownBlock):=hid (by
       rcases EJ.out with h | h
       ·exact aCa h
       ·cases T:u11.ownBlock with
        | none=>exact aCa rfl
        | some q=>exact aCb λe=>o q (LLt.out q T) (λM=>h (by rw[T,M];rfl)) (Option.some.inj e))
      have B9:=hid ((Dm.out.alloc Dm.out.size (.cells #[.int .i64 (n:Nat)] 3)).grown d (by have:=Dm.out.size;simp;omega) (λq h=>HMB.out q h));have ag2:Hid ((ms++[n])[k]?=some m0):=hid (by rw[aCh Uq];exact jq.out);have agY:Hid (VK out (ms++[n]) os k):=hid (ajA jg.out (by omega));have HEx:=HEn;have IC:=M9;have M0:=T9;have VT:=O9;have JM:=N9;have Di:=L9;have Dm:=B9;have VW:=MT9;have VU:=OM9;have YM:=D9;have EJ:=LM9;have as6:W0.heap.size<=w9.heap.size:=by omega
      clear g d D E o M9 T9 O9 N9 L9 B9 MT9 OM9 D9 LM9 OLt VLt LLt;obtain⟨P,Q,rfl⟩:=ak Di.out;have nJ:=hid (λq h=>(Di.out.lt q h).1);go_wp2_with (at_builtin;go_must (refine aCE _ rfl (.tmp 65) (.tmp 67) 22 rfl W0.heap.size 3 i0 (.int .i64 0) 1 8 Tryz.underlying22 I aT aP aO rfl (by decide) _ l (aI (xs.drop (8*k))) rfl (Di.out.alloc _) ⟨w9.heap.size,0,none⟩ 1 1 [.int .i64 (ms.length:Nat)] rfl rfl (dH w9 [.int .i64 (ms.length:Nat)] _) (by intro y hy;simp at hy;rcases hy with rfl;rfl) (by decide) (by unfold maxLen;omega) (by omega) (by simp;omega) (w9.heap.size+1) (by simp) ?_));intro u H w7 g d D qj;have E:=(aB4 w9.heap.size w9).alloc (aB2 _) (.cells #[.int .i64 (ms.length:Nat)] 3);have uz:w9.heap.size<=w7.heap.size:=by
       have:=d.size;simp at this;omega
      have UH:(Value.slice P l Q).ownBlock≠some (f.heap.size+1):=λe=>by have:=nJ.out _ e;omega
      have T7:=hid (Dt (M0.out.below E M0.out.lt) d UH);have hML:(Value.slice (some ⟨g9,0,none⟩) (ms.length+1) c9).ownBlock=none\/(Value.slice (some ⟨g9,0,none⟩) (ms.length+1) c9).ownBlock≠(Value.slice P l Q).ownBlock:=by
       rcases EJ.out with h | h
       ·rw[h];cases (Value.slice (some ⟨g9,0,none⟩) (ms.length+1) c9).ownBlock <;> simp
       ·exact aCb λe=>h e.symm
      have M7:=hid ((ai IC.out E).kept d hML);have far:∀ q,q<W0.heap.size->some q≠(Value.slice P l Q).ownBlock:=λq O e=>by have:=nJ.out q e.symm;omega
      have O7:=hid ((ai VT.out E).kept d (by
       cases T:N.ownBlock with
       | none=>exact aCa rfl
       | some q=>exact aCb (far q (VV.out q T))))
      have N7:=(JM.out.keeps E).xk d (aY (JM.out.keeps E).out (Di.out.alloc (.cells #[.int .i64 (ms.length:Nat)] 3)) (by decide)) (λq O=>by
       cases T:(V q).ownBlock with
       | none=>exact aCa rfl
       | some z=>exact aCb (far z (Dc.out q O z T)))
      have N7:Hid (fZ w7 (f.heap.size+2) 22 3 vN k V (λq=>aI (mO (xs++[ms.length]) q))):=hid ⟨N7.out,λq O=>by
       rw[J9 (by omega)];exact N7.row q O⟩
      have L7:Hid (w7.ownsRow W0.heap.size 3 1 (.slice (some ⟨u,0,none⟩) (l+1) H) (l+1) (aI ((xs++[ms.length]).drop (8*k)))):=hid (by
       rw[List.drop_append_of_le_length (by omega),show aI (xs.drop (8*k)++[ms.length])=aI (xs.drop (8*k))++[.int .i64 (ms.length:Nat)] by simp[aI]];exact g)
      have LM7:Hid ((Value.slice (some ⟨u,0,none⟩) (l+1) H).ownBlock=none\/(Value.slice (some ⟨u,0,none⟩) (l+1) H).ownBlock≠(Value.slice (some ⟨g9,0,none⟩) (ms.length+1) c9).ownBlock):=hid (aCb λe=>by
       have M:(Value.slice (some ⟨g9,0,none⟩) (ms.length+1) c9).ownBlock=some u:=e.symm;rcases D with h | h
       ·rcases EJ.out with h2 | h2
        ·rw[h]at h2;cases h2
        ·exact h2 (by rw[h,M])
       ·have:=(IC.out.lt u M).2;omega)
      have jE:=hid ((Dm.out.alloc Dm.out.size (.cells #[.int .i64 (ms.length:Nat)] 3)).grown d (by have:=Dm.out.size;simp;omega) (λq h=>by have:=nJ.out q h;omega));clear g d D E IC M0 VT JM Di EJ Dm hML far;go_wp2_with fail;go_roundw
      case rel=>exact⟨l+1,ms++[n],xs++[ms.length],by go_num,by omega,by rw[aCd,aCv];omega,ag2,HEx,agY,M7,VW,T7,O7,VU,N7,YM,L7,LM7,jE,by omega⟩
      case measure=>simp[intOf];omega
    ·obtain rfl:l=8:=by omega
     have t0:=HT.out.c0;have hT9:=HT.out.lt;have p1:=(U.out.cell (p:=⟨w3.heap.size,1,none⟩) hP).trans f1;have om:=(U.out.cell (p:=⟨Y,m0,none⟩) Bh).trans (uN.out m0 af2);have hoK:=jg.out.1;obtain⟨ML,Mw,rfl⟩:=ak HO.out;have anO:=hid (λq (h:(Value.slice ML k Mw).ownBlock=some q)=>(HO.out.lt q h));have agS:=hid (λi (I:i<k) q (h:(V i).ownBlock=some q)=>((Z.out.row i I).lt q h).2);have hMO:(Value.slice ML k Mw).ownBlock≠some L:=λe=>by
      rcases HOM.out with h | h
      ·rw[e]at h;cases h
      ·exact h (by rw[e];rfl)
     have HZ:Hid (W3.cell? ⟨w3.heap.size,1,none⟩=some (.slice (some ⟨Y,0,none⟩) K xY)/\W3.cell? ⟨L,k,none⟩=some (.int .i64 (m0:Nat))/\W3.cell? ⟨Y,m0,none⟩=some (.int .i64 (out m0:Nat))):=hid ⟨p1,c1,om⟩;have aaa:L<W3.heap.size:=ama;have Mg:w3.heap.size<W3.heap.size:=by have:=U.out.size;omega
     have hOW:Y<W3.heap.size:=by have:=U.out.size;omega
     have z1:(k:Int)<(ms.length:Int):=by omega
     have z2:(m0:Int)<(K:Int):=by omega
     go_wp2_with fail;refine wp_region_held_drew (S:=λW=>W.cell? ⟨w3.heap.size,1,none⟩=some (.slice (some ⟨Y,0,none⟩) K xY)/\W.cell? ⟨L,k,none⟩=some (.int .i64 (m0:Nat))/\W.cell? ⟨Y,m0,none⟩=some (.int .i64 (out m0:Nat))) (by kernel_rfl) HZ.out (λaD=>?_);refine aCc (i:=0) (oi:={ dst:=some 69,op:=Op.fieldAddr _ (.tmp 9) 0,type:=_,pos:=_,after:=_,guard:=none }) (v:=(Value.pointer (some ⟨f.heap.size+1,0,none⟩))) rfl (by kernel_rfl) (by kernel_rfl) (by kernel_rfl) (λ_ _ _ h=>h) (aCa ⟨by rfl,by intro w' J;(try dsimp only at J);go_simp⟩) (by assumption) ?_
     simp only[Act.put,aB1,aB5,aB6];refine aCc (i:=2) (oi:={ dst:=some 71,op:=Op.move (.tmp 6),type:=_,pos:=_,after:=_,guard:=none }) (v:=(Value.pointer (some ⟨w3.heap.size,0,none⟩))) rfl (by kernel_rfl) (by kernel_rfl) (by kernel_rfl) (λ_ _ _ h=>h) (aCa ⟨by rfl,by intro w' J;(try dsimp only at J);go_simp⟩) (by assumption) ?_
     simp only[Act.put,aB1,aB5,aB6];refine aCc (i:=3) (oi:={ dst:=some 72,op:=Op.nilCheck (.tmp 71),type:=_,pos:=_,after:=_,guard:=none }) (v:=(Value.pointer (some ⟨w3.heap.size,0,none⟩))) rfl (by kernel_rfl) (by kernel_rfl) (by kernel_rfl) (λ_ _ _ h=>h) (aCa ⟨by rfl,by intro w' J;(try dsimp only at J);go_simp⟩) (by assumption) ?_
     simp only[Act.put,aB1,aB5,aB6];refine aCc (i:=4) (oi:={ dst:=some 73,op:=Op.fieldAddr _ (.tmp 72) 1,type:=_,pos:=_,after:=_,guard:=none }) (v:=(Value.pointer (some ⟨w3.heap.size,1,none⟩))) rfl (by kernel_rfl) (by kernel_rfl) (by kernel_rfl) (λ_ _ _ h=>h) (aCa ⟨by rfl,by intro w' J;(try dsimp only at J);go_simp⟩) (by assumption) ?_
     simp only[Act.put,aB1,aB5,aB6];refine aCc (i:=5) (oi:={ dst:=some 74,op:=Op.load _ (.tmp 73),type:=_,pos:=_,after:=_,guard:=none }) (v:=(Value.slice (some ⟨Y,0,none⟩) K xY)) rfl (by kernel_rfl) (by kernel_rfl) (by kernel_rfl) (λ_ _ _ h=>h) (aCa ⟨by rfl,by intro w' J;obtain⟨s0,s1,s2⟩:=J;go_simp⟩) (by assumption) ?_;simp only[Act.put,aB1,aB5,aB6];refine aCc (i:=6) (oi:={ dst:=some 75,op:=Op.move (.tmp 8),type:=_,pos:=_,after:=_,guard:=none }) (v:=(Value.slice (some ⟨L,0,none⟩) ms.length Cf)) rfl (by kernel_rfl) (by kernel_rfl) (by kernel_rfl) (λ_ _ _ h=>h) (aCa ⟨by rfl,by intro w' J;(try dsimp only at J);go_simp⟩) (by assumption) ?_
     simp only[Act.put,aB1,aB5,aB6];refine aCc (i:=7) (oi:={ dst:=some 76,op:=Op.move (.tmp 10),type:=_,pos:=_,after:=_,guard:=none }) (v:=(Value.int .i64 (k:Nat))) rfl (by kernel_rfl) (by kernel_rfl) (by kernel_rfl) (λ_ _ _ h=>h) (aCa ⟨by rfl,by intro w' J;(try dsimp only at J);go_simp⟩) (by assumption) ?_
     simp only[Act.put,aB1,aB5,aB6];refine aCc (i:=8) (oi:={ dst:=some 77,op:=Op.indexAddr _ (.tmp 75) (.tmp 76),type:=_,pos:=_,after:=_,guard:=none }) (v:=(Value.pointer (some ⟨L,k,none⟩))) rfl (by kernel_rfl) (by kernel_rfl) (by kernel_rfl) (λ_ _ _ h=>h) (aCa ⟨by rfl,by intro w' J;(try dsimp only at J);go_simp⟩) (by assumption) ?_
     simp only[Act.put,aB1,aB5,aB6];refine aCc (i:=9) (oi:={ dst:=some 78,op:=Op.load _ (.tmp 77),type:=_,pos:=_,after:=_,guard:=none }) (v:=(Value.int .i64 (m0:Nat))) rfl (by kernel_rfl) (by kernel_rfl) (by kernel_rfl) (λ_ _ _ h=>h) (aCa ⟨by rfl,by intro w' J;obtain⟨s0,s1,s2⟩:=J;go_simp⟩) (by assumption) ?_;simp only[Act.put,aB1,aB5,aB6];refine aCc (i:=10) (oi:={ dst:=some 79,op:=Op.indexAddr _ (.tmp 74) (.tmp 78),type:=_,pos:=_,after:=_,guard:=none }) (v:=(Value.pointer (some ⟨Y,m0,none⟩))) rfl (by kernel_rfl) (by kernel_rfl) (by kernel_rfl) (λ_ _ _ h=>h) (aCa ⟨by rfl,by intro w' J;(try dsimp only at J);go_simp⟩) (by assumption) ?_
     simp only[Act.put,aB1,aB5,aB6];refine aCc (i:=11) (oi:={ dst:=some 80,op:=Op.load _ (.tmp 79),type:=_,pos:=_,after:=_,guard:=none }) (v:=(Value.int .i64 (out m0:Nat))) rfl (by kernel_rfl) (by kernel_rfl) (by kernel_rfl) (λ_ _ _ h=>h) (aCa ⟨by rfl,by intro w' J;obtain⟨s0,s1,s2⟩:=J;go_simp⟩) (by assumption) ?_;simp only[Act.put,aB1,aB5,aB6];refine aCk (rs:=[1,12]) (by kernel_rfl) (by simp) ?_;refine aCf rfl (λK9 A=>?_) (aCf rfl (λK9 A=>?_) aCj)
     focus
      go_simp
      refine A.out _ _ (by assumption) (λaD=>?_);clear A K9;refine aCk (rs:=[12]) (by kernel_rfl) (by simp) ?_;refine aCf rfl (λK9 A=>?_) aCj
      go_simp
      refine A.out _ _ ⟨by show (W3.alloc _).cell? _=_;rw[aCB _ _ _ Mg];exact HZ.out.1,by show (W3.alloc _).cell? _=_;rw[aCB _ _ _ aaa];exact HZ.out.2.1,by show (W3.alloc _).cell? _=_;rw[aCB _ _ _ hOW];exact HZ.out.2.2⟩ (λaD=>?_)
     rotate_left
     focus
      go_simp
      refine A.out _ _ ⟨by show (W3.alloc _).cell? _=_;rw[aCB _ _ _ Mg];exact HZ.out.1,by show (W3.alloc _).cell? _=_;rw[aCB _ _ _ aaa];exact HZ.out.2.1,by show (W3.alloc _).cell? _=_;rw[aCB _ _ _ hOW];exact HZ.out.2.2⟩ (λaD=>?_);clear A K9;refine aCk (rs:=[1]) (by kernel_rfl) (by simp) ?_;refine aCf rfl (λK9 A=>?_) aCj
      go_simp
      refine A.out _ _ (by assumption) (λaD=>?_)
     all_goals
      clear A K9;refine aCk (rs:=[13]) (by kernel_rfl) (by simp) ?_;refine aCf rfl (λK9 A=>?_) aCj;refine aCV _ (by rfl) (.tmp 70) (.tmp 81) 22 (by rfl) (f.heap.size+2) 3 i0 (.int .i64 0) 1 8 Tryz.underlying22 I aT aP aO rfl (by decide) _ k (aI os) (by rfl) ((HO.out.alloc _).drew) ⟨W3.heap.size,0,none⟩ 1 1 [.int .i64 (out m0:Nat)] (by rfl) (by rfl) (dH W3 [.int .i64 (out m0:Nat)] _) (by intro y hy;simp at hy;rcases hy with rfl;rfl) (by decide) (by unfold maxLen;omega) (by omega) (by simp;omega) (W3.heap.size+1) (by simp) ?_;intro u H X g d D iy;have afV:W3.heap.size+1<=X.heap.size:=by
       have h4:(W3.drew.alloc (.cells #[.int .i64 (out m0:Nat)] 3)).heap.size<=X.heap.size:=d.size;rw[aB7]at h4;exact h4
      have qB:KB W3 X (W3.heap.size+X.heap.size+1) (Value.slice ML k Mw).ownBlock none:=⟨d.os,d.tape,d.output,by omega,λq O h1 h2 _=>by
       rw[d.block q (by show q<(W3.alloc (.cells #[.int .i64 (out m0:Nat)] 3)).heap.size;rw[aB7];omega) h2];show (W3.alloc (.cells #[.int .i64 (out m0:Nat)] 3)).heap[q]?=_;rw[aCt _ _ _ (by omega)]⟩
      have Ko:∀ q,q<f.heap.size+2->some q≠(Value.slice ML k Mw).ownBlock:=λq O e=>by have:=(anO.out q e.symm).1;omega
      have F:∀ q,q<W3.heap.size->some q≠(Value.slice ML k Mw).ownBlock->X.heap[q]?=W3.heap[q]?:=λq O h=>qB.block q O (by omega) h (by simp);have nT:∀ (v:Value) B e s n ys,W3.ownsRow B e s v n ys->v.ownBlock≠some (W3.heap.size+X.heap.size+1):=λv B e s n ys h e9=>by have:=(h.lt _ e9).2;omega
      have T2:Two X (f.heap.size+1) (.slice ML k Mw) vN:=⟨(aCn (a:=⟨f.heap.size+1,0,none⟩) (F _ hT9 (Ko (f.heap.size+1) (by omega)))).trans HT.out.c0,(aCn (a:=⟨f.heap.size+1,1,none⟩) (F _ hT9 (Ko (f.heap.size+1) (by omega)))).trans HT.out.c1,(aCo (a:=⟨f.heap.size+1,0,none⟩) (F _ hT9 (Ko (f.heap.size+1) (by omega)))).trans HT.out.f0,(aCo (a:=⟨f.heap.size+1,1,none⟩) (F _ hT9 (Ko (f.heap.size+1) (by omega)))).trans HT.out.f1⟩;have g2:X.cell? ⟨w3.heap.size,1,none⟩=some (.slice (some ⟨Y,0,none⟩) K xY)/\X.cell? ⟨L,k,none⟩=some (.int .i64 (m0:Nat))/\X.cell? ⟨Y,m0,none⟩=some (.int .i64 (out m0:Nat)):=⟨(aCn (a:=⟨w3.heap.size,1,none⟩) (F _ Mg (Ko w3.heap.size (by omega)))).trans HZ.out.1,(aCn (a:=⟨L,k,none⟩) (F _ aaa (λe=>hMO e.symm))).trans HZ.out.2.1,(aCn (a:=⟨Y,m0,none⟩) (F _ hOW (Ko Y (by omega)))).trans HZ.out.2.2⟩;have D1:=hid (T2.set0 (.slice (some ⟨u,0,none⟩) (k+1) H));have D2:Hid ((X.setCell ⟨f.heap.size+1,0,none⟩ (.slice (some ⟨u,0,none⟩) (k+1) H)).ownsRow (f.heap.size+2) 3 1 (.slice (some ⟨u,0,none⟩) (k+1) H) (k+1) (aI (os++[out m0]))):=hid (aB (by
       rw[show aI (os++[out m0])=aI os++[.int .i64 (out m0:Nat)] by simp[aI]];exact g) (by omega) _ _)
      have D3:=hid (dN (nu HM.out qB (nT _ _ _ _ _ _ HM.out) (aCb λe=>hMO e.symm) (by simp[Value.ownBlock])) ⟨f.heap.size+1,0,none⟩ (.slice (some ⟨u,0,none⟩) (k+1) H) VX.out);have D4:=hid (aB (nu Dj.out qB (nT _ _ _ _ _ _ Dj.out) (by
       cases T:u11.ownBlock with
       | none=>exact aCa rfl
       | some q=>
        refine aCb λe=>?_;have h1:=(Dj.out.lt q T).1;have h2:=VV.out q e.symm;omega) (by cases u11.ownBlock <;> simp)) (show f.heap.size+1<W0.heap.size by omega) 0 (.slice (some ⟨u,0,none⟩) (k+1) H))
      have N2:fZ X (f.heap.size+2) 22 3 vN k V (λq=>aI (mO xs q)):=⟨nu Z.out.out qB (nT _ _ _ _ _ _ Z.out.out) (aY Z.out.out HO.out (by decide)) (by cases vN.ownBlock <;> simp),λi I=>nu (Z.out.row i I) qB (nT _ _ _ _ _ _ (Z.out.row i I)) (aCb (HD.out i I).2) (by cases (V i).ownBlock <;> simp)⟩
      have D5:=hid (N2.set (show f.heap.size+1<f.heap.size+2 by omega) 0 (.slice (some ⟨u,0,none⟩) (k+1) H));have o:∀ q,q<W3.heap.size->some q≠(Value.slice ML k Mw).ownBlock->q≠u:=λq O hne e=>by
       rcases D with h | h
       ·exact hne (by rw[h,e])
       ·omega
      have D6:Hid (((.slice (some ⟨u,0,none⟩) (k+1) H):Value).ownBlock=none\/((.slice (some ⟨u,0,none⟩) (k+1) H):Value).ownBlock≠(Value.slice (some ⟨L,0,none⟩) ms.length Cf).ownBlock):=hid (aCb λe=>o L aaa (λM=>hMO M.symm) (Option.some.inj e).symm);have D7:Hid (∀ i,i<k->(V i).ownBlock≠(Value.slice (some ⟨L,0,none⟩) ms.length Cf).ownBlock/\(V i).ownBlock≠((.slice (some ⟨u,0,none⟩) (k+1) H):Value).ownBlock):=hid (λi I=>⟨(HD.out i I).1,λe=>by
       have M:(V i).ownBlock=some u:=e;exact o u (agS.out i I u M) (λe3=>(HD.out i I).2 (by rw[M,e3])) rfl⟩)
      have D8:Hid (u11.ownBlock≠((.slice (some ⟨u,0,none⟩) (k+1) H):Value).ownBlock):=hid (λe=>by
       have M:u11.ownBlock=some u:=e;have h1:=Dj.out.lt u M;rcases D with h | h
       ·have:=VV.out u h;omega
       ·omega)
      have D9:=hid (((aCl (U.out.alloc U.out.size (.cells #[.int .i64 (out m0:Nat)] 3)) 1).grown d (by have h9:=U.out.size;show f.heap.size<=(W3.alloc _).heap.size;simp;omega) (λq h=>by have:=(anO.out q h).1;omega)).setCell (p:=⟨f.heap.size+1,0,none⟩) (by show f.heap.size<=f.heap.size+1;omega) (.slice (some ⟨u,0,none⟩) (k+1) H));refine A.out _ _ g2 (λaD=>?_);have wE:Hid ((X.setCell ⟨f.heap.size+1,0,none⟩ (.slice (some ⟨u,0,none⟩) (k+1) H)).cell? ⟨w3.heap.size,1,none⟩=some (.slice (some ⟨Y,0,none⟩) K xY)/\(X.setCell ⟨f.heap.size+1,0,none⟩ (.slice (some ⟨u,0,none⟩) (k+1) H)).cell? ⟨L,k,none⟩=some (.int .i64 (m0:Nat))/\(X.setCell ⟨f.heap.size+1,0,none⟩ (.slice (some ⟨u,0,none⟩) (k+1) H)).cell? ⟨Y,m0,none⟩=some (.int .i64 (out m0:Nat))):=hid ⟨by rw[aB8 _ _ _ _ (λe=>by have:=congrArg Addr.block e;simp at this;omega)];exact g2.1,by rw[aB8 _ _ _ _ (λe=>VX.out (by have:=congrArg Addr.block e;simp at this;rw[this];rfl))];exact g2.2.1,by rw[aB8 _ _ _ _ (λe=>by have:=congrArg Addr.block e;simp at this;omega)];exact g2.2.2⟩;have c2:=T2.c0;have f9:=T2.f0;clear A K9 g d D g2 T2 qB F nT N2 o Ko;simp only[Act.put,aB1];refine aCc (i:=14) (oi:={ dst:=some 83,op:=Op.fieldAddr _ (.tmp 9) 0,type:=_,pos:=_,after:=_,guard:=none }) (v:=(Value.pointer (some ⟨f.heap.size+1,0,none⟩))) rfl (by kernel_rfl) (by kernel_rfl) (by kernel_rfl) (λ_ _ _ h=>h) (aCa ⟨by rfl,by intro w' J;(try dsimp only at J);go_simp⟩) (by assumption) ?_
      simp only[Act.put];refine aCk (rs:=[15]) (by kernel_rfl) (by simp) ?_;refine aCf rfl (λK9 A=>?_) aCj
      go_simp
      refine A.out _ _ wE.out (λaD=>?_);clear A K9;refine aC0 (by kernel_rfl) ?_ _;clear aD c2 f9 wE;have azd:W3.heap.size<(X.setCell ⟨f.heap.size+1,0,none⟩ (.slice (some ⟨u,0,none⟩) (k+1) H)).heap.size:=by rw[aCr];omega
      generalize X.setCell ⟨f.heap.size+1,0,none⟩ (.slice (some ⟨u,0,none⟩) (k+1) H)=W6 at *;clear HT HO HM Z Dj U HD t0 p1 om c1 HZ;have OS2:=hid (ajz jg.out jq.out);have q0:=D1.out.c1;have q1:=D1.out.f1;obtain⟨sQ,sN,rfl⟩:=ak D5.out.out;obtain⟨P,Q,rfl⟩:=ak D4.out;have E:=(aB4 W6.heap.size W6).alloc (aB2 _) (.cells #[.slice P 8 Q] 22);go_wp2_with (at_builtin;go_must (refine aCE _ rfl (.tmp 85) (.tmp 87) 23 rfl (f.heap.size+2) 22 i1 (.slice none 0 0) 1 24 Tryz.underlying23 jU gJ gI gG rfl (by decide) _ k ((List.range k).map V) rfl (D5.out.out.alloc _) ⟨W6.heap.size,0,none⟩ 1 1 [.slice P 8 Q] rfl rfl (dH W6 [.slice P 8 Q] _) (by intro y hy;simp at hy;rcases hy with rfl;rfl) (by decide) (by unfold maxLen;omega) (by omega) (by simp;omega) (W6.heap.size+1) (by simp) ?_));intro g8 c8 w8 g d D azm;have uy:W6.heap.size<=w8.heap.size:=by
       have:=d.size;simp at this;omega
      have qx:(Value.slice sQ k sN).ownBlock≠some (f.heap.size+1):=λe=>by have:=(D5.out.out.lt _ e).1;omega
      have T8:=Dt (D1.out.below E D1.out.lt) d qx;have af4:(aI (mO xs k)).length=8:=by rw[ny,zg]
      have p8:=(bQ D4.out (show f.heap.size+2<=W0.heap.size by omega)).alloc (.cells #[.slice P 8 Q] 22);rw[Te (by omega)]at p8;have N8:=nL (D5.out.keeps E) (x:=.slice P 8 Q) (by rw[af4];exact p8) (by decide) d g;have ow:W6.alloc (.cells #[.slice P 8 Q] 22)=W6.alloc (.cells #[.slice P 8 Q] 22):=rfl;have Io:=D5.out.out.alloc (.cells #[.slice P 8 Q] 22);have O8:=(ai D2.out E).kept d (aY (ai D2.out E) Io (by decide));have M8:=(ai D3.out E).kept d (aY (ai D3.out E) Io (by decide));have r0:=T8.c1;have r1:=T8.f1;have E1:=hid (T8.set1 (.slice (some ⟨g8,0,none⟩) (k+1) c8));have E2:=hid (N8.set (show f.heap.size+1<f.heap.size+2 by omega) 1 (.slice (some ⟨g8,0,none⟩) (k+1) c8));have E3:=hid (aB O8 (show f.heap.size+1<f.heap.size+2 by omega) 1 (.slice (some ⟨g8,0,none⟩) (k+1) c8));have E4:=hid (dN M8 ⟨f.heap.size+1,1,none⟩ (.slice (some ⟨g8,0,none⟩) (k+1) c8) VX.out);have E5:Hid (∀ i,i<k+1->((λi=>if i=k then Value.slice P 8 Q else V i) i).ownBlock≠(Value.slice (some ⟨L,0,none⟩) ms.length Cf).ownBlock/\((λi=>if i=k then Value.slice P 8 Q else V i) i).ownBlock≠((.slice (some ⟨u,0,none⟩) (k+1) H):Value).ownBlock):=hid (λi I=>by
       by_cases c:i=k
       ·simp only[c,if_true];refine⟨?_,D8.out⟩;rcases qC.out with h | h
        ·obtain⟨g9,h9,_⟩:=eZ D4.out (by omega);subst h9;simp[Value.ownBlock]at h
        ·exact h
       ·simp only[c,if_false];exact D7.out i (by omega))
      have E6:=hid (((D9.out.alloc D9.out.size (.cells #[.slice P 8 Q] 22)).grown d (by have:=D9.out.size;simp;omega) (λq h=>by have:=(D5.out.out.lt q h).1;omega)).setCell (p:=⟨f.heap.size+1,1,none⟩) (by show f.heap.size<=f.heap.size+1;omega) (.slice (some ⟨g8,0,none⟩) (k+1) c8));clear g d D E ow Io O8 M8 N8 T8 p8 D1 D2 D3 D4 D5 D9 qx;go_wp2_with fail;go_roundw
      case rel=>exact⟨k+1,ms,xs,os++[out m0],_,_,_,by go_num,by omega,by omega,HE,OS2,E4,VX,E1,E3,D6,E2,E5,E6,by simp;omega⟩
      case measure=>simp[intOf];omega
  ·obtain rfl:k=ms.length:=by omega
   have rW:=hid (HWM.out ms xs HE.out Bb);have TF:=hid (T5.out.below U.out (by omega));have Nq:=hid (fH.out.trans (U.out.mono (by omega)));have d0:=TF.out.c0;have d1:=TF.out.c1;have e0:=TF.out.f0;have e1:=TF.out.f1;subst hvM;by_cases h8:ms.length<=8
   ·have k8:¬ ((8:Int)<(ms.length:Int)):=by omega
    obtain⟨a1,c1,rfl⟩:=ak HO.out;obtain⟨a2,c2,rfl⟩:=ak Z.out.out;have hw5:w.heap.size<f.heap.size+2:=by omega
    have O1:=aB (aB HO.out hw5 0 (.slice a1 ms.length c1)) hw5 1 (.slice a2 ms.length c2);rw[LB]at O1;have N1:=(Z.out.set hw5 0 (.slice a1 ms.length c1)).set hw5 1 (.slice a2 ms.length c2);obtain⟨MO,c1',e1',I1⟩:=zK O1;obtain⟨a2',c2',e2',L2⟩:=abg N1;cases e1';cases e2';have g0:=HT.out.c0;have g1:=HT.out.c1;have hos:os=(List.range ms.length).map λi=>out (uI ms i):=by
     apply List.ext_getElem
     ·simp[jg.out.1]
     ·intro i h1 h2;have h3:=jg.out.2 i (by rw[<-jg.out.1];exact h1);simp[List.getD,aB3 h1]at h3;simp[h3]
    have I1:=hid I1;have L2:=hid L2;have HOE:=hid hos;clear hos O1 N1;go_wp2_with fail;refine dS (cs:=[.slice a1 ms.length c1,.slice a2 ms.length c2]) (v:=.int .i64 (0:Nat)) (b:=w.heap.size) Tryz.results12 ?_ ?_ ?_ ?_ Tryz.underlying37 rfl Tryz.wO ?_
    ·rfl
    ·rfl
    ·rfl
    ·exact wG d0 d1 _ _
    ·refine⟨_,_,0,rfl,aCa ⟨rfl,ms.length,_,_,rW.out,h8,⟨a1,c1,rfl,?_⟩,⟨a2,c2,rfl,?_⟩⟩,(Nq.out.setCell (p:=⟨w.heap.size,0,none⟩) (aB2 _) _).setCell (p:=⟨w.heap.size,1,none⟩) (aB2 _) _⟩
     ·rw[<-HOE.out];exact I1.out
     ·exact L2.out
   ·have k8:(8:Int)<(ms.length:Int):=by omega
    have Np:=hid (agL rW.out (by omega));go_wp2_with fail;refine dS (cs:=[.slice none 0 0,.slice none 0 0]) (v:=.int .i64 (7:Nat)) (b:=w.heap.size) Tryz.results12 ?_ ?_ ?_ ?_ Tryz.underlying37 rfl Tryz.wO ?_
    ·rfl
    ·rfl
    ·rfl
    ·exact wG d0 d1 _ _
    ·exact⟨_,_,7,rfl,λh0=>absurd rfl h0,λ_=>aCb ⟨rfl,rfl,rfl,Np.out⟩,(Nq.out.setCell (p:=⟨w.heap.size,0,none⟩) (aB2 _) _).setCell (p:=⟨w.heap.size,1,none⟩) (aB2 _) _⟩
end
end Go.Proofs.YtjagijohfkffiabGreat
namespace Go.Proofs.YtjagijohfkffiabGreat.watches
open Go.ChangeShapes Go.WideShapes Go.ChangeAt Go.RowKit
open Go.ChangeMaps (open_string shut_string)
set_option linter.unusedVariables false
theorem Zi(s:ByteArray)(w:World)(hm:s.size<=maxLen):Calls Tryz.prog 12 #[.string s] w (wW s w):=by
 by_cases h:(af s).1=0
 ·exact Zh s w hm h
 ·exact abj s w hm h
theorem WW{ns:List Nd}{ss:List St}{n:Nat}{out:Nat->Nat}{nx:Nat->Nat->Nat}(h:MV ns ss)(k:EF ns n out nx):ss.length=n/\ik ss n=ve ((List.range n).map out)/\jc ss n=(List.range n).map λi=>ve ((List.range 8).map λl=>nx i l):=by
 obtain⟨d,nx1,e,f⟩:=h;obtain⟨rfl,g,j⟩:=Tv e k;have st:∀ i,i<ss.length->bu ss i=yj (d i) (nx1 i):=λi b=>by simp[bu,List.getD,f i b]
 refine⟨rfl,?_,?_⟩
 ·unfold ik ve;rw[List.map_map];refine aCX λi b=>?_;have c:i<ss.length:=by simpa using b
  rw[st i c,g i c];rfl
 ·unfold jc;refine aCX λi b=>?_;have c:i<ss.length:=by simpa using b
  rw[st i c];have a:∀ l,l<8->nx1 i l=nx i l:=λl m=>j i l c m;simp only[yj,a 0 (by omega),a 1 (by omega),a 2 (by omega),a 3 (by omega),a 4 (by omega),a 5 (by omega),a 6 (by omega),a 7 (by omega)];rfl
theorem WY(a0:ByteArray)(w0:a0.size<=maxLen)(w:World) :
  Calls Tryz.prog 26 #[.string a0] w λe w'=>e=.returned (.bool true)/\Below w.heap.size w w':=by
 have H:=aaO a0 w w0;have I:=λW=>Zi a0 W w0;unfold zq at H;unfold wW at I;generalize af a0=p at *;go_enter Tryz.func26,Tryz.ntmps26;go_wp2_with fail;refine H.mono ?_;rintro e x ⟨y,z,d,rfl,U,X,m⟩;have A:Hid ((p.1≠0/\d=p.1/\y=.slice none 0 0/\z=.slice none 0 0)\/(p.1=0/\d=0/\∃ ss V,mU x w.heap.size y z V ss ss.length/\ss.length<=8/\MV p.2 ss)\/(p.1=0/\d=7/\y=.slice none 0 0/\z=.slice none 0 0/\Big p.2)):=hid (by
  by_cases b:p.1=0
  ·rcases X b with⟨h1,ss,V,h2,_,h3,h4⟩ | ⟨h1,h2,h3,h4⟩
   ·exact aCb (aCa ⟨b,h1,ss,V,h2,h3,h4⟩)
   ·exact aCb (aCb ⟨b,h1,h2,h3,h4⟩)
  ·exact aCa ⟨b,U b⟩)
 obtain⟨C,J,c1,xD⟩:∃ a l c,y=.slice a l c:=by
  rcases A.out with⟨_,_,h,_⟩ | ⟨_,_,ss,V,h,_⟩ | ⟨_,_,h,_⟩
  ·exact⟨_,_,_,h⟩
  ·obtain⟨a,c,e⟩:=ak h.out;exact⟨a,_,c,e⟩
  ·exact⟨_,_,_,h⟩
 obtain⟨D,K,c2,EU⟩:∃ a l c,z=.slice a l c:=by
  rcases A.out with⟨_,_,_,h⟩ | ⟨_,_,ss,V,h,_⟩ | ⟨_,_,_,h,_⟩
  ·exact⟨_,_,_,h⟩
  ·obtain⟨a,c,e⟩:=ak h.pU;exact⟨a,_,c,e⟩
  ·exact⟨_,_,_,h⟩
 subst xD;subst EU;clear U X H;have Y:=hid ((aB4 x.heap.size x).alloc (aB2 _) (.cells #[.slice C J c1,.slice D K c2] 37));go_wp2_with fail;refine(I _).mono ?_;rintro e i ⟨u1,u2,L,rfl,Z,M,E⟩;simp only[aB7]at E;have F:=hid (Y.out.trans (E.mono (by omega)));have o:∀ W:World,Ints W none 0 0 []:=λW=>⟨rfl,aB2 _,by omega,λ_=>⟨rfl,rfl⟩,λh=>by omega⟩;have q:∀ W:World,Lists W none 0 0 []:=λW=>⟨rfl,aB2 _,by omega,λ_=>⟨rfl,rfl⟩,λh=>by omega⟩;obtain⟨r,m1,s,t,f,u,os,ls,EW,N,O,P,Q,R,S⟩:∃ r m1 s t f u os ls,u1=.slice r m1 s/\u2=.slice t f u/\Ints i C J c1 os/\Lists i D K c2 ls/\Ints i r m1 s os/\Lists i t f u ls/\d=L:=by
  rcases A.out with⟨b,h1,h2,h3⟩ | ⟨b,h1,ss,V,h2,h3,h4⟩ | ⟨b,h1,h2,h3,h4⟩
  ·obtain⟨j,g,v⟩:=Z b;cases h2;cases h3;exact⟨_,_,_,_,_,_,[],[],g,v,o _,q _,o _,q _,by rw[h1,j]⟩
  ·rcases M b with⟨j,n,out,nx,g,v,⟨a,c,k4,k5⟩,⟨a',c',k6,k7⟩⟩ | ⟨_,_,_,k4⟩
   ·obtain⟨T,e2,e3⟩:=WW h4 g;have hL:=h2.keeps F.out;obtain⟨b1,b2,f1,f2⟩:=hL.ints;obtain⟨b3,b4,f3,f4⟩:=hL.lists;cases f1;cases f3;rw[T,e2]at f2;rw[T,e3]at f4;rw[T];exact⟨_,_,_,_,_,_,_,_,k4,k6,f2,f4,k5,k7,by rw[h1,j]⟩
   ·obtain⟨o9,n9,hM,_⟩:=h4;have:=k4 _ _ _ hM;omega
  ·rcases M b with⟨j,n,out,nx,g,v,_⟩ | ⟨j,g,v,k4⟩
   ·have:=h4 _ _ _ g;omega
   ·cases h2;cases h3;exact⟨_,_,_,_,_,_,[],[],g,v,o _,q _,o _,q _,by rw[h1,j]⟩
 subst EW;subst N;subst S;have Jt:m1=J:=by rw[<-O.hlen,<-Q.hlen]
 have CF:f=K:=by rw[<-P.hlen,<-R.hlen]
 subst Jt;subst CF;have G:=(bY x (.slice C m1 c1) (.slice D f c2) 37).below E (by simp);have t0:=G.c0;have t1:=G.c1;have tl:=G.lt;have k:=(aB4 i.heap.size i).alloc (aB2 _) (.cells #[.slice r m1 s,.slice t f u] 37);have SM:=hid (Ay C D r t m1 c1 f c2 s u os ls _ (O.below k) (P.below k) (Q.below k) (R.below k));have B:=hid (((m.trans (F.out.mono m.size)).trans (k.mono (m.trans (F.out.mono m.size)).size)));clear A I Z M m E F Y o q O P Q R G k;go_wp2_with fail;refine SM.out.mono ?_;rintro e w3 ⟨rfl,aA⟩;have B3:=hid (B.out.trans (aA.mono B.out.size));clear SM aA;go_wp2;go_ret;exact⟨rfl,B3.out⟩
end Go.Proofs.YtjagijohfkffiabGreat.watches
namespace Go.Proofs.YtjagijohfkffiabGreat
open Go.RowKit
set_option linter.unusedVariables false
def rB(n i:Nat)(o k:Int):Bool:=decide (0<=k)&&decide (k<n)&&(decide (o=0)||decide (k=i))
def Yt(o:Int)(l:List Int):Bool:=decide (l.length=8)&&decide (0<=o)&&decide (o<=2)
def NI(n i:Nat)(o:Int)(l:List Int):Bool:=Yt o l&&l.all (rB n i o)
theorem ajr{n i:Nat}{o k:Int}(h0:0<=o)(h2:o<=2):rB n i o k=gq n i (wR o) k:=by
 unfold rB gq wR;have:o=0\/o=1\/o=2:=by omega
 rcases this with rfl | rfl | rfl <;> simp
theorem NH{n i:Nat}{o:Int}{l:List Int}:NI n i o l=(decide (l.length=8)&&qo n i ⟨o,l⟩):=by
 unfold NI Yt qo;by_cases a:0<=o
 ·by_cases b:o<=2
  ·have e:(rB n i o)=gq n i (wR o):=funext λk=>ajr a b;have:o=0\/o=1\/o=2:=by omega
   rw[e];rcases this with rfl | rfl | rfl <;> simp[wR]
  ·simp[wR,b];intro h c;omega
 ·simp[wR,a];intro h c;omega
theorem Xf{os:List Int}{ls:List (List Int)}(hl:ls.length=os.length)(h1:1<=os.length)(h8:os.length<=8):eG os ls=true↔∀ i,i<os.length->NI os.length i (os.getD i 0) (ls.getD i [])=true:=by
 constructor
 ·intro h i a;have e:=pg h;rw[NH,e.2.1 i (by omega)];have:=(jw.1 e.2.2).2.2 i (by rw[nQ hl];exact a);rw[nQ hl,KQ hl a]at this;rw[this];rfl
 ·intro h;have b:∀ i,i<ls.length->(ls.getD i []).length=8:=λi a=>by
   have:=h i (by omega);rw[NH]at this;simp at this;simpa using this.1
  rw[(xI hl b).1,jw,nQ hl];refine⟨h1,h8,λi a=>?_⟩;have:=h i a;rw[NH]at this;rw[KQ hl a];simp only[aCH]at this;exact this.2
section
variable (a1 a2:Option Addr) (l1 c1 l2 c2:Nat) (os:List Int) (ls:List (List Int)) (w:World)
theorem aah(h1:Ints w a1 l1 c1 os)(h2:Lists w a2 l2 c2 ls)(h:l1=0\/8<l1\/l2≠l1):Calls Tryz.prog 41 #[.agg #[.slice a1 l1 c1,.slice a2 l2 c2]] w λe w'=>e=.returned (.bool (eG os ls))/\Below w.heap.size w w':=by
 have E:Hid (eG os ls=false):=hid (uD λe=>by
  have a:=pg e;have b:=jw.1 a.2.2;rw[nQ a.1,h1.hlen]at b;have:=a.1;rw[h1.hlen,h2.hlen]at this;omega)
 have m1:=h1.hmax;have m3:=h1.hcap;have d:=h2.hmax;have m4:=h2.hcap;by_cases c:l1=0
 ·subst c;go_enter Tryz.func41,Tryz.ntmps41;go_wp2_with fail;go_ret;exact⟨by rw[E.out];rfl,(aB4 _ _).alloc (aB2 _) _⟩
 have f:((l1:Int)==0)=false:=aCe.2 (by omega);by_cases g:8<l1
 ·go_enter Tryz.func41,Tryz.ntmps41;go_wp2_with fail;go_ret;exact⟨by rw[E.out];rfl,(aB4 _ _).alloc (aB2 _) _⟩
 have i:((l2:Int) !=(l1:Int))=true:=bne_iff_ne.2 (by omega);go_enter Tryz.func41,Tryz.ntmps41;go_wp2_with fail;go_ret;exact⟨by rw[E.out];rfl,(aB4 _ _).alloc (aB2 _) _⟩
theorem Xe(h1:Ints w a1 l1 c1 os)(h2:Lists w a2 l1 c2 ls)(hp:1<=l1)(h8:l1<=8):Calls Tryz.prog 41 #[.agg #[.slice a1 l1 c1,.slice a2 l1 c2]] w λe w'=>e=.returned (.bool (eG os ls))/\Below w.heap.size w w':=by
 have m1:=h1.hmax;have m3:=h1.hcap;have m2:=h2.hmax;have m4:=h2.hcap;have L1:=h1.hlen;have L2:=h2.hlen;have q1:((l1:Int)==0)=false:=aCe.2 (by omega);have L:=hid (Xf (os:=os) (ls:=ls) (by omega) (by omega) (by omega));rw[L1]at L;obtain⟨q,r,rfl,X,f⟩:=h1.hcell (by omega);obtain⟨g,h,rfl,M,P⟩:=h2.hcell (by omega);go_enter Tryz.func41,Tryz.ntmps41;go_wp2_with fail
 go_loopw [4] (λi wr=>∃ (j:Nat),j<=l1/\i=.int .i64 j/\Below (w.heap.size+1) (w.alloc (.cells #[.slice (some ⟨q,r,none⟩) l1 c1,.slice (some ⟨g,h,none⟩) l1 c2] 37)) wr/\Hid (∀ m,m<j->NI l1 m (os.getD m 0) (ls.getD m [])=true)) (λi _=>l1 - (intOf i).toNat)
 case atStart=>exact⟨0,aCg _,rfl,aB4 _ _,hid (λm hm=>by omega)⟩
 case round=>
  obtain⟨j,hj,rfl,z,Y⟩:=hrel;have Q:Below w.heap.size w wr:=((aB4 _ _).alloc (aB2 _) _).trans (z.mono (Nat.le_succ _));by_cases d:j<l1
  ·obtain⟨ra,A,rc,N,B⟩:=P j d;have cr':=(Q.cell (p:=⟨g,h+j,none⟩) M).trans N;have cO:=(Q.cell (p:=⟨q,r+j,none⟩) X).trans (f j d);have t:=(z.cell (p:=⟨w.heap.size,0,none⟩) (aCA _)).trans (aCY w _ _ 0);have u:=(z.cell (p:=⟨w.heap.size,1,none⟩) (aCA _)).trans (aCY w _ _ 1);simp at t u;have rl':=B.hlen;have qI:=B.hcap;have afc:=B.hmax;have D:=f j d;have R:Hid (NI l1 j (os.getD j 0) (ls.getD j [])=(Yt (os.getD j 0) (ls.getD j [])&&(ls.getD j []).all (rB l1 j (os.getD j 0)))):=hid rfl;generalize k:ls.getD j []=row at *;generalize Z:os.getD j 0=o at *;have S:=hid k;have T:=hid Z;clear k Z;have HO:=hid (D:w.cell? ⟨q,r+j,none⟩=some (.int .i64 o));clear D;cases mg:Yt o row with
   | true=>
    have fQ:=hid mg;unfold Yt at mg;simp only[aCH,aCZ]at mg;obtain⟨⟨e8,y0⟩,y2⟩:=mg;obtain rfl:A=8:=by omega
    have v:decide (0<=o)=true:=by simp;omega
    have U:decide (o<=2)=true:=by simp;omega
    go_wp2_with fail
    go_loopw [6,5] (λi s wr=>∃ (a:Nat),a<=8/\i=.int .i64 a/\s=.bool ((row.take a).all (rB l1 j o))/\Below (w.heap.size+1) (w.alloc (.cells #[.slice (some ⟨q,r,none⟩) l1 c1,.slice (some ⟨g,h,none⟩) l1 c2] 37)) wr) (λi _ _=>8 - (intOf i).toNat)
    case atStart=>exact⟨0,aCg _,rfl,by simp,z⟩
    case round=>
     obtain⟨a,ha,rfl,rfl,b⟩:=hrel;have c:Below w.heap.size w wr:=((aB4 _ _).alloc (aB2 _) _).trans (b.mono (Nat.le_succ _));have E:=(c.cell (p:=⟨g,h+j,none⟩) M).trans N;have cOq:=(c.cell (p:=⟨q,r+j,none⟩) X).trans HO.out;have t:=(b.cell (p:=⟨w.heap.size,0,none⟩) (aCA _)).trans (aCY w _ _ 0);have u:=(b.cell (p:=⟨w.heap.size,1,none⟩) (aCA _)).trans (aCY w _ _ 1);simp at t u;by_cases F:a<8
     ·obtain⟨G,H,rfl,I,l⟩:=B.hcell (by omega);have cx:=(c.cell (p:=⟨G,H+a,none⟩) I).trans (l a F);have J:Hid ((row.take (a+1)).all (rB l1 j o)=((row.take a).all (rB l1 j o)&&rB l1 j o (row.getD a 0))):=hid (by
       rw[List.take_succ_eq_append_getElem (show a<row.length by omega),List.all_append,List.all_cons,List.all_nil,Bool.and_true];simp[List.getD,aB3 (show a<row.length by omega)])
      clear l;generalize row.getD a 0=x at *;cases ecur:(row.take a).all (rB l1 j o) with
      | false=>
       have C:=hid ecur;clear ecur;go_wp2_with fail;go_roundw
       case rel=>exact⟨a+1,by omega,by go_num,by rw[J.out,C.out];rfl,b⟩
       case measure=>simp[intOf];omega
      | true=>
       have C:=hid ecur;clear ecur;by_cases x1:x<0
       ·have n:Hid (rB l1 j o x=false):=hid (by simp[rB];omega);have Ji:decide (0<=x)=false:=by simp;omega
        go_wp2_with fail;go_roundw
        case rel=>exact⟨a+1,by omega,by go_num,by rw[J.out,n.out,C.out];rfl,b⟩
        case measure=>simp[intOf];omega
       by_cases x2:(l1:Int)<=x
       ·have n:Hid (rB l1 j o x=false):=hid (by simp[rB];omega);have Ji:decide (0<=x)=true:=by simp;omega
        have KR:decide (x<(l1:Int))=false:=by simp;omega
        go_wp2_with fail;go_roundw
        case rel=>exact⟨a+1,by omega,by go_num,by rw[J.out,n.out,C.out];rfl,b⟩
        case measure=>simp[intOf];omega
       have Ji:decide (0<=x)=true:=by simp;omega
       have KR:decide (x<(l1:Int))=true:=by simp;omega
       by_cases y:o=0
       ·have n:Hid (rB l1 j o x=true):=hid (by simp[rB,y];omega);have V:(o==0)=true:=beq_iff_eq.2 y;clear y;go_wp2_with fail;go_roundw
        case rel=>exact⟨a+1,by omega,by go_num,by rw[J.out,n.out,C.out];rfl,b⟩
        case measure=>simp[intOf];omega
       have V:(o==0)=false:=aCe.2 y;by_cases K:x=(j:Int)
       focus
        have n:Hid (rB l1 j o x=true):=hid (by simp[rB,y,K];omega);have W:(x==(j:Int))=true:=beq_iff_eq.2 K
       rotate_left
       focus
        have n:Hid (rB l1 j o x=false):=hid (by simp[rB,y,K]);have W:(x==(j:Int))=false:=aCe.2 K
       all_goals
        clear K y;go_wp2_with fail;go_roundw
        case rel=>exact⟨a+1,by omega,by go_num,by rw[J.out,n.out,C.out];rfl,b⟩
        case measure=>simp[intOf];omega
     ·obtain rfl:a=8:=by omega
      rw[List.take_of_length_le (by omega)];cases eall:row.all (rB l1 j o) with
      | true=>
       have HA:Hid (NI l1 j o row=true):=hid (by rw[R.out,fQ.out,eall];rfl);clear eall;go_wp2_with fail;go_roundw
       case rel=>
        refine⟨j+1,by omega,by go_num,b,hid (λm hm=>?_)⟩;by_cases e:m<j
        ·exact Y.out m e
        ·rw[show m=j by omega,S.out,T.out];exact HA.out
       case measure=>simp[intOf];omega
      | false=>
       have O:Hid (eG os ls=false):=hid (uD λe=>by
        have:=L.out.1 e j d;rw[S.out,T.out,R.out,fQ.out,eall]at this;cases this)
       clear eall;go_wp2_with fail;go_ret;exact⟨by rw[O.out];rfl,c⟩
   | false=>
    have O:Hid (eG os ls=false):=hid (uD λe=>by
     have:=L.out.1 e j d;rw[S.out,T.out,R.out,mg]at this;cases this)
    unfold Yt at mg;by_cases e8:A=8
    ·subst e8;have r8:decide (row.length=8)=true:=by simp;omega
     rw[r8,Bool.true_and]at mg;by_cases y0:0<=o
     focus
      have v:decide (0<=o)=true:=by simp;omega
      rw[v,Bool.true_and]at mg;have U:=mg;have y2:¬ o<=2:=by simpa using mg
     rotate_left
     focus
      have v:decide (0<=o)=false:=by simp;omega
     all_goals
      clear mg;go_wp2_with fail
      go_loopw [6,5] (λi s wr=>∃ (a:Nat),a<=8/\i=.int .i64 a/\s=.bool false/\Below (w.heap.size+1) (w.alloc (.cells #[.slice (some ⟨q,r,none⟩) l1 c1,.slice (some ⟨g,h,none⟩) l1 c2] 37)) wr) (λi _ _=>8 - (intOf i).toNat)
      case atStart=>exact⟨0,aCg _,rfl,rfl,z⟩
      case round=>
       obtain⟨a,ha,rfl,rfl,b⟩:=hrel;have c:Below w.heap.size w wr:=((aB4 _ _).alloc (aB2 _) _).trans (b.mono (Nat.le_succ _));have E:=(c.cell (p:=⟨g,h+j,none⟩) M).trans N;have t:=(b.cell (p:=⟨w.heap.size,0,none⟩) (aCA _)).trans (aCY w _ _ 0);have u:=(b.cell (p:=⟨w.heap.size,1,none⟩) (aCA _)).trans (aCY w _ _ 1);simp at t u;by_cases F:a<8
       ·obtain⟨G,H,rfl,I,l⟩:=B.hcell (by omega);have cx:=(c.cell (p:=⟨G,H+a,none⟩) I).trans (l a F);clear l f P;generalize row.getD a 0=x at *;go_wp2_with fail;go_roundw
        case rel=>exact⟨a+1,by omega,by go_num,rfl,b⟩
        case measure=>simp[intOf];omega
       ·go_wp2_with fail;go_ret;exact⟨by rw[O.out];rfl,c⟩
    ·have e8':((A:Int)==8)=false:=aCe.2 (by omega);clear mg;go_wp2_with fail
     go_loopw [6,5] (λi s wr=>∃ (a:Nat),a<=A/\i=.int .i64 a/\s=.bool false/\Below (w.heap.size+1) (w.alloc (.cells #[.slice (some ⟨q,r,none⟩) l1 c1,.slice (some ⟨g,h,none⟩) l1 c2] 37)) wr) (λi _ _=>A - (intOf i).toNat)
     case atStart=>exact⟨0,aCg _,rfl,rfl,z⟩
     case round=>
      obtain⟨a,ha,rfl,rfl,b⟩:=hrel;have c:Below w.heap.size w wr:=((aB4 _ _).alloc (aB2 _) _).trans (b.mono (Nat.le_succ _));have E:=(c.cell (p:=⟨g,h+j,none⟩) M).trans N;have t:=(b.cell (p:=⟨w.heap.size,0,none⟩) (aCA _)).trans (aCY w _ _ 0);have u:=(b.cell (p:=⟨w.heap.size,1,none⟩) (aCA _)).trans (aCY w _ _ 1);simp at t u;by_cases F:a<A
      ·obtain⟨G,H,rfl,I,l⟩:=B.hcell (by omega);have cx:=(c.cell (p:=⟨G,H+a,none⟩) I).trans (l a F);clear l f P;generalize row.getD a 0=x at *;go_wp2_with fail;go_roundw
       case rel=>exact⟨a+1,by omega,by go_num,rfl,b⟩
       case measure=>simp[intOf];omega
      ·go_wp2_with fail;go_ret;exact⟨by rw[O.out];rfl,c⟩
  ·have HT:Hid (eG os ls=true):=hid (L.out.2 λi hi=>Y.out i (by omega));go_wp2_with fail;go_ret;exact⟨by rw[HT.out];rfl,Q⟩
end
