import Derived.Test.YtjagijohfkffiabGreatFREM35
set_option maxHeartbeats 16000000
set_option maxRecDepth 100000
set_option linter.unusedSimpArgs false
namespace Go.Proofs.YtjagijohfkffiabGreat
open Go.RowKit
set_option linter.unusedVariables false
def pK(l:List Nat):List Int:=l.map λx:Nat=>(x:Int)
theorem Ka(l:List Nat):aD l=gJ (pK l):=by simp[aD,gJ,pK]
theorem ZE{w:World}{B n:Nat}{v:Value}{V:Nat->Value}{xs:List Nat}(h:iE w B 22 3 v n V (λq=>aD (ll xs q))):∃ a c,v=.slice a n c/\Lists w a n c ((List.range n).map λi=>pK (ll xs i)):=by
 have hl:((List.range n).map λi=>pK (ll xs i)).length=n:=by simp
 rcases h.out.2 with⟨rfl,rfl⟩ | ⟨g,cap,cur,rfl,hb,hh,hc,hm,_⟩
 ·exact⟨none,0,rfl,hl,aAU _,by omega,λ_=>⟨rfl,rfl⟩,λh=>by omega⟩
 ·refine⟨_,cap,rfl,hl,hc,by unfold maxLen at hm;omega,λh=>by simp at h,λ_=>⟨g,0,rfl,(aBm.1 hh).1,λi hi=>?_⟩⟩;have hr:=h.row i hi;rw[mD,xB,Ka]at hr;obtain⟨a,c,hv,zA⟩:=rX hr;refine⟨a,8,c,?_,?_⟩
  ·rw[aBo,h.out.cellAt i (by omega)];simp[aBk,aBx hi,hv]
  ·rw[show ((List.range n).map λi=>pK (ll xs i)).getD i []=pK (ll xs i) by simp[List.getD,aBk,aBx hi]];exact zA
def uL(s:ByteArray)(w:World)(e:Ending)(w':World):Prop:=
 ∃ v1 v2 er,e=.returned (.tuple #[.agg #[v1,v2],.int .i64 (er:Nat)])/\((aB s).1≠0->er=(aB s).1/\v1=.slice none 0 0/\v2=.slice none 0 0) /\
  ((aB s).1=0->(er=0/\∃ n out nx,Av (aB s).2 n out nx/\n<=8/\(∃ a c,v1=.slice a n c/\Ints w' a n c (pK ((List.range n).map out)))/\∃ a c,v2=.slice a n c/\Lists w' a n c ((List.range n).map λi=>pK ((List.range 8).map λl=>nx i l)))\/(er=7/\v1=.slice none 0 0/\v2=.slice none 0 0/\Big (aB s).2))/\Below w.heap.size w w'
def Ud(out:Nat->Nat)(ms os:List Nat)(k:Nat):Prop:=os.length=k/\∀ i,i<k->os.getD i 0=out (rG ms i)
theorem ahY{out:Nat->Nat}{ms os:List Nat}{k n:Nat}(h:Ud out ms os k)(hk:k<=ms.length):Ud out (ms++[n]) os k:=⟨h.1,λi hi=>by
 rw[h.2 i hi];unfold rG;rw[fq (by omega)]⟩
theorem VM{out:Nat->Nat}{ms os:List Nat}{k m:Nat}(h:Ud out ms os k)(hm:ms[k]?=some m):Ud out ms (os++[out m]) (k+1):=⟨by simp[h.1],λi hi=>by
 by_cases c:i=k
 ·subst c;have:=h.1;rw[<-this,dN];simp[rG,List.getD,this,hm]
 ·rw[fq (by rw[h.1];omega)];exact h.2 i (by omega)⟩
theorem xP{w w':World}{b:Nat}{x y:Value}{r:Option Nat}(h:Two w b x y)(hg:w.grownBy w' r)(hne:r≠some b):Two w' b x y:=by
 have hb:=hg.block b h.lt (λe=>hne e.symm);exact⟨(aBf (a:=⟨b,0,none⟩) hb).trans h.c0,(aBf (a:=⟨b,1,none⟩) hb).trans h.c1,(aBg (a:=⟨b,0,none⟩) hb).trans h.f0,(aBg (a:=⟨b,1,none⟩) hb).trans h.f1⟩
section
variable (s:ByteArray) (w:World)
theorem ZG(hm:s.size<=maxLen)(h:(aB s).1≠0):Calls Tryz.prog 12 #[.string s] w (uL s w):=by
 have C:=λW=>nA s W hm;unfold fK at C;unfold uL;generalize aB s=p at *;have k:((p.1:Int) !=0)=true:=by rw[bne_iff_ne];omega
 go_enter Tryz.func12,Tryz.ntmps12;go_wp2_with fail;refine(C _).mono ?_;rintro e w1 ⟨hb,⟨_,rfl⟩ | ⟨h0,_⟩⟩
 ·simp only[aAZ]at hb;have T1:=(dD w (.slice none 0 0) (.slice none 0 0) 37).below hb (by omega);have d0:=T1.c0;have d1:=T1.c1;have e0:=T1.f0;have e1:=T1.f1;have HB:=hid (((aAW w.heap.size w).alloc (aAU _) (.cells #[.slice none 0 0,.slice none 0 0] 37)).trans (hb.mono (by omega)));clear C hb T1;go_wp2_with fail;refine fM (cs:=[.slice none 0 0,.slice none 0 0]) (v:=.int .i64 (p.1:Nat)) (b:=w.heap.size) Tryz.results12 ?_ ?_ ?_ ?_ Tryz.underlying37 rfl Tryz.uA ?_
  ·rfl
  ·rfl
  ·rfl
  ·exact uo d0 d1 _ _
  ·exact⟨_,_,p.1,rfl,λ_=>⟨rfl,rfl,rfl⟩,λh0=>absurd h0 h,(HB.out.setCell (p:=⟨w.heap.size,0,none⟩) (aAU _) _).setCell (p:=⟨w.heap.size,1,none⟩) (aAU _) _⟩
 ·exact absurd h0 h
theorem XL(hm:s.size<=maxLen)(h:(aB s).1=0):Calls Tryz.prog 12 #[.string s] w (uL s w):=by
 have C:=λW=>nA s W hm;unfold fK at C;have G:=hid (pF h);have SG:=hid (Nw h);unfold uL;generalize aB s=p at *;obtain⟨p1,ns⟩:=p;dsimp only at *;subst h;obtain⟨aa,sF⟩:=ajp ns (bH ns ns.length);have uj:=hid sF;have yL:=hid (λus xs (h:jk ns aa (bu ns aa) us xs)=>Jo G.out SG.out sF h);obtain⟨i0,hi,aR,aP,aN⟩:=info_parts Tryz.lW;obtain⟨i1,iC,fe,eZ,eY⟩:=info_parts Tryz.ym;clear sF;go_enter Tryz.func12,Tryz.ntmps12;go_wp2_with fail;refine(C _).mono ?_;rintro e w1 ⟨hb,⟨h0,_⟩ | ⟨_,bs,rfl,hf⟩⟩
 ·exact absurd rfl h0
 simp only[aAZ]at hb hf;have T1:=hid ((dD w (.slice none 0 0) (.slice none 0 0) 37).below hb (by omega));have aK:=hid (((aAW w.heap.size w).alloc (aAU _) (.cells #[.slice none 0 0,.slice none 0 0] 37)).trans (hb.mono (by omega)));have hs1:w.heap.size<w1.heap.size:=T1.out.lt;obtain⟨gp,cap,Kr⟩:=agd hf G.out.pos;have RW:=hid (QN _ gp cap ns bs w1 Kr G.out);clear C hb hf Kr;go_wp2_with fail;refine RW.out.mono ?_;rintro e w3 ⟨R,vs,rfl,hRM,Wp,hM,aI⟩;have Pz:=hid hRM;have Uv:=hid Wp;have cu:=hid (aK.out.trans (aI.mono (by omega)));have T3:=hid (T1.out.below aI (by omega));have vF:=T3.out.lt;clear hRM Wp aI RW aK T1;go_wp2_with fail;refine(aex R _ gp cap ns bs vs aa w3 Pz.out G.out hM uj.out Uv.out yL.out).mono ?_;rintro e w4 ⟨us,ys,rfl,hE,hx,hFR,eH⟩;have hK:=yL.out us ys hE;have Bo:0<us.length:=(aA1.1 hE.first).1
 have yM:=hid (Bp hE hx);have HWM:=hid (λms xs h he=>acJ (ms:=ms) (xs:=xs) G.out uj.out hE hx h he);have iN:=hid (cu.out.trans (eH.mono (by omega)));have T4:=hid (T3.out.below eH (by omega));have zu:=T4.out.lt;have PK:=hid hFR;generalize iJ ns aa (bu ns aa) us=out at *;generalize hKE:us.length=K at *;clear hE hx hFR eH cu T3 Pz hKE;go_wp2_with fail;refine(abY w3.heap.size K out ys w4 PK.out Bo hK yM.out).mono ?_;rintro e w5 ⟨vt,tb,t,rfl,Wm,hti,bV⟩;have HTI:=hid hti;have Y2:=hid (PK.out.below bV);have iM:=hid (iN.out.trans (bV.mono (by omega)));have T5:=hid (T4.out.below bV (by omega));have tL:=T5.out.lt;obtain⟨aot,cpt,rfl⟩:=ai Wm.out;have kS:=hid Wm;clear Wm hti bV PK iN T4;obtain⟨vO0,f1,tX,wC,rfl,Yr,CP⟩:=Y2.out.c1;obtain⟨vX,f2,aoX,asu,rfl,anm,Kj⟩:=Y2.out.c2;have hP:=Y2.out.lt;have hol:((List.range K).map out).length=K:=by simp
 rw[hol]at f1 Yr CP;obtain⟨gO,rfl,Kq,hoc⟩:=CP Bo;obtain⟨gX,rfl,hgX,hxc⟩:=Kj Bo;have BP:Hid (∀ x,x<K->w5.cell? ⟨gO,x,none⟩=some (.int .i64 (out x:Nat))):=hid (λx hx=>by
  have h9:=hoc x hx;rw[show df ((List.range K).map out) x=out x by simp[df,List.getD,hx]]at h9;exact h9)
 have HXC:Hid (∀ x,x<K->∃ gR FY,w5.cell? ⟨gX,x,none⟩=some (.slice (some ⟨gR,0,none⟩) 8 FY)/\gR<w5.heap.size/\∀ a,a<8->w5.cell? ⟨gR,a,none⟩=some (.int .i64 (dZ ys x a:Nat))):=hid (λx hx=>by
  obtain⟨r,hr,aoR,FY,rfl,hcR,rz⟩:=hxc x hx;rw[xB]at hr hcR rz;obtain⟨gR,rfl,We,hv⟩:=rz (by omega);exact⟨gR,FY,hr,We,λa ha=>by have h9:=hv a ha;rw[Z6 ys ha]at h9;exact h9⟩)
 clear CP Kj hoc hxc Y2;generalize dZ ys=nx at *;go_wp2_with fail;have bA:=(aAW w5.heap.size w5).alloc (aAU _) (.cells #[.int .i64 0] 3);have bB:=hid (bA.alloc (by simp) (.cells #[.slice none 0 0,.slice none 0 0] 37));have OM0:=hid ((VK (w:=w5) (cs:=#[.int .i64 0]) (t:=3) (n:=1) (size:=1) rfl (by unfold maxLen;omega)).alloc (.cells #[.slice none 0 0,.slice none 0 0] 37));have TW0:=dD (w5.alloc (.cells #[.int .i64 0] 3)) (.slice none 0 0) (.slice none 0 0) 37;rw[show (w5.alloc (.cells #[.int .i64 0] 3)).heap.size=w5.heap.size+1 by simp]at TW0;have TW0:=hid TW0;clear bA
 go_loopw [8,10] (λvM x wq=>∃ (k:Nat) (ms xs os:List Nat) (vO vN:Value) (V:Nat->Value),x=.int .i64 k/\k<=ms.length/\xs.length=8*k/\Hid (DY out nx K ms xs)/\Hid (Ud out ms os k)/\Hid (wq.ownsRow w5.heap.size 3 1 vM ms.length (aD ms))/\Hid (vM.ownBlock≠some (w5.heap.size+1))/\Hid (Two wq (w5.heap.size+1) vO vN)/\Hid (wq.ownsRow (w5.heap.size+2) 3 1 vO k (aD os))/\Hid (vO.ownBlock=none\/vO.ownBlock≠vM.ownBlock)/\Hid (iE wq (w5.heap.size+2) 22 3 vN k V (λq=>aD (ll xs q)))/\Hid (∀ i,i<k->(V i).ownBlock≠vM.ownBlock/\(V i).ownBlock≠vO.ownBlock)/\Hid (Below w5.heap.size w5 wq)/\w5.heap.size+2<=wq.heap.size) (λ_ x _=>796594190 - (intOf x).toNat)
 case atStart=>exact⟨0,[0],[],[],_,_,λ_=>.slice none 0 0,rfl,by simp,rfl,hid (Zb Bo),hid ⟨rfl,λi h=>by omega⟩,OM0,hid (by simp[Value.ownBlock]),TW0,hid (aBh _ _ _ _),hid (aA2 rfl),hid (xz _ _ _ _ _ _),hid (λi h=>by omega),bB,by simp⟩
 case round=>
  obtain⟨k,ms,xs,os,vO,vN,V,rfl,hk,zo,HE,iF,HM,Gu,HT,HO,HOM,HN,HD,HB,hsz⟩:=hrel;rename World=>W0;clear bB OM0 TW0;have hmK:=LH HE.out;obtain⟨aoM,cpM,hvM⟩:=ai HM.out;by_cases hlk:k<ms.length
  ·obtain⟨m0,hm0⟩:∃ m0,ms[k]?=some m0:=⟨ms[k],aAV hlk⟩;have dP:=hid hm0;have aeg:=HE.out.lt m0 (aBB hm0);obtain⟨gR,FY,xr,We,xv⟩:=HXC.out m0 aeg;have HXR:=hid xr;have HXV:=hid xv;have Lf:=hid (λi (hi:i<k) q (h:(V i).ownBlock=some q)=>((HN.out.row i hi).lt q h).2);have Lm:=hid (λq (h:vO.ownBlock=some q)=>(HO.out.lt q h).2);have HNB:=hid (λq (h:vN.ownBlock=some q)=>(HN.out.out.lt q h).2);clear hm0 xr xv;subst hvM;go_wp2_with fail
   go_loopw [8,11,12] (λvM vL x wq=>∃ (l:Nat) (ms xs:List Nat),x=.int .i64 l/\l<=8/\xs.length=8*k+l/\Hid (ms[k]?=some m0)/\Hid (DY out nx K ms xs)/\Hid (Ud out ms os k)/\Hid (wq.ownsRow w5.heap.size 3 1 vM ms.length (aD ms))/\Hid (vM.ownBlock≠some (w5.heap.size+1))/\Hid (Two wq (w5.heap.size+1) vO vN)/\Hid (wq.ownsRow (w5.heap.size+2) 3 1 vO k (aD os))/\Hid (vO.ownBlock=none\/vO.ownBlock≠vM.ownBlock)/\Hid (iE wq (w5.heap.size+2) 22 3 vN k V (λq=>aD (ll xs q)))/\Hid (∀ i,i<k->(V i).ownBlock≠vM.ownBlock/\(V i).ownBlock≠vO.ownBlock)/\Hid (wq.ownsRow W0.heap.size 3 1 vL l (aD (xs.drop (8*k))))/\Hid (vL.ownBlock=none\/vL.ownBlock≠vM.ownBlock)/\Hid (Below w5.heap.size w5 wq)/\W0.heap.size<=wq.heap.size) (λ_ _ x _=>8 - (intOf x).toNat)
   case atStart=>exact⟨0,ms,xs,rfl,by omega,by omega,dP,HE,iF,HM,Gu,HT,HO,HOM,HN,HD,by rw[List.drop_of_length_le (by omega)];exact hid (aBh _ _ _ _),hid (aA2 rfl),HB,aAU _⟩
   case round=>
    obtain⟨l,ms,xs,rfl,hl8,zo,dP,HE,iF,HM,Gu,HT,HO,HOM,HN,HD,ui,nJ,HB,ma⟩:=hrel;rename World=>W3;obtain⟨ayv,uG,rfl⟩:=ai HM.out;have RU:=(aA1.1 dP.out).1;have ax2:=LH HE.out;obtain⟨gM,eM,aya,akq,hcM⟩:=dX HM.out (by omega);subst eM;have c1:W3.cell? ⟨gM,k,none⟩=some (.int .i64 (m0:Nat)):=by
     rw[HM.out.cellAt k (by omega)];simp[aD,aBk,dP.out]
    by_cases jW:l<8
    ·have p2:=(HB.out.cell (p:=⟨w3.heap.size,2,none⟩) hP).trans f2;have xr:=(HB.out.cell (p:=⟨gX,m0,none⟩) hgX).trans HXR.out;have xv:=(HB.out.cell (p:=⟨gR,l,none⟩) We).trans (HXV.out l jW);have hnK:=yM.out m0 l aeg jW;have Be:xs.length / 8=k/\xs.length % 8=l:=by omega
     have HWO:=hid (λ(j m1:Nat) (hj:ms[j]?=some m1) hq=>aha HE.out (m0:=m0) (j:=j) (m1:=m1) (by rw[Be.1];exact dP.out) hj (by rw[Be.2];exact hq));have HWN:=hid (λhall=>ahb HE.out (m0:=m0) (by rw[Be.1];exact dP.out) (by rw[Be.2];exact hnK) (by rw[Be.2];exact hall));rw[Be.2]at HWN;generalize nx m0 l=n at *;have c1':∀ m,(W3.drewN m).cell? ⟨gM,k,none⟩=some (.int .i64 (m0:Nat)):=λm=>c1;go_wp2_with fail
     go_quiet (fail)
     have bq:=aBd (aAW W3.heap.size W3) nq;have PH:=hid (ae HM.out bq);have Px:=hid (HT.out.below bq HT.out.lt);have Iw:=hid (ae HO.out bq);have HN4:=hid (HN.out.keeps bq);have HL4:=hid (ae ui.out bq);have UJ:=hid (aBd HB.out nq);have arH:W0.heap.size<=(W3.drewN nq).heap.size:=ma;clear bq c1 c1' p2 xr xv HM HT HO HN ui HB akq;generalize W3.drewN nq=W4 at *;go_wp2_with fail;refine(adT _ K n _ _ tb t ms W4 (kS.out.keeps UJ.out) hnK hK (AY PH.out) (by omega) HE.out.lt).mono ?_;rintro e w6 ⟨lL,mm,rfl⟩;have bq:=aBd (aAW W4.heap.size W4) mm;have Gt:=hid (ae PH.out bq);have Lg:=hid (Px.out.below bq Px.out.lt);have Uq:=hid (ae Iw.out bq);have Iy:=hid (HN4.out.keeps bq);have BS:=hid (ae HL4.out bq);have Ca:=hid (aBd UJ.out mm);have arG:W0.heap.size<=(W4.drewN mm).heap.size:=arH;clear bq PH Px Iw HN4 HL4 UJ;generalize W4.drewN mm=W5 at *;have Ut:=Gu;have Ur:=HOM;have Xf:=HD;have Dr:=nJ;have HTN:=hid (λm (hm:m<K)=>HTI.out n m hnK hm);rcases lL with⟨j,m1,rfl,hj,htf⟩ | ⟨rfl,hall⟩
     ·have arV:=HE.out.lt m1 (aBB hj);have hjl:=(aA1.1 hj).1;have HEx:=hid (HWO.out j m1 hj (aBp λhne=>by
       rw[(HTN.out m1 arV).2 hne]at htf;cases htf))
      have afe:=dP;have afc:=iF;have jn:¬ ((j:Int)<0):=by omega
      clear hj htf HWO HWN;obtain⟨dK,dJ,rfl⟩:=ai BS.out;have uk:=hid (λq h=>(BS.out.lt q h).1);go_wp2_with (at_builtin;go_must (refine aBw _ rfl (.tmp 65) (.tmp 67) 22 rfl W0.heap.size 3 i0 (.int .i64 0) 1 8 Tryz.underlying22 hi aR aP aN rfl (by decide) _ l (aD (xs.drop (8*k))) rfl (BS.out.alloc _) ⟨W5.heap.size,0,none⟩ 1 1 [.int .i64 (j:Nat)] rfl rfl (dx W5 [.int .i64 (j:Nat)] _) (by intro y hy;simp at hy;rcases hy with rfl;rfl) (by decide) (by unfold maxLen;omega) (by omega) (by simp;omega) (W5.heap.size+1) (by simp) ?_));intro gg cc w7 hown hgrow hat uD;have b6:=(aAW W5.heap.size W5).alloc (aAU _) (.cells #[.int .i64 (j:Nat)] 3);have vE:W5.heap.size<=w7.heap.size:=by
       have:=hgrow.size;simp at this;omega
      have Sl:(Value.slice dK l dJ).ownBlock≠some (w5.heap.size+1):=λe=>by have:=uk.out _ e;omega
      have T7:=hid (xP (Lg.out.below b6 Lg.out.lt) hgrow Sl);have Fv:(Value.slice (some ⟨gM,0,none⟩) ms.length uG).ownBlock=none\/(Value.slice (some ⟨gM,0,none⟩) ms.length uG).ownBlock≠(Value.slice dK l dJ).ownBlock:=by
       rcases Dr.out with h | h
       ·rw[h];cases (Value.slice (some ⟨gM,0,none⟩) ms.length uG).ownBlock <;> simp
       ·exact aA3 λe=>h e.symm
      have M7:=hid ((ae Gt.out b6).kept hgrow Fv);have far:∀ q,q<W0.heap.size->some q≠(Value.slice dK l dJ).ownBlock:=λq hq e=>by have:=uk.out q e.symm;omega
      have O7:=hid ((ae Uq.out b6).kept hgrow (by
       cases hv:vO.ownBlock with
       | none=>exact aA2 rfl
       | some q=>exact aA3 (far q (Lm.out q hv))))
      have N7:=(Iy.out.keeps b6).CJ hgrow (aC (Iy.out.keeps b6).out (BS.out.alloc (.cells #[.int .i64 (j:Nat)] 3)) (by decide)) (λq hq=>by
       cases hv:(V q).ownBlock with
       | none=>exact aA2 rfl
       | some z=>exact aA3 (far z (Lf.out q hq z hv)))
      have N7:Hid (iE w7 (w5.heap.size+2) 22 3 vN k V (λq=>aD (ll (xs++[j]) q))):=hid ⟨N7.out,λq hq=>by
       rw[IY (by omega)];exact N7.row q hq⟩
      have L7:Hid (w7.ownsRow W0.heap.size 3 1 (.slice (some ⟨gg,0,none⟩) (l+1) cc) (l+1) (aD ((xs++[j]).drop (8*k)))):=hid (by
       rw[List.drop_append_of_le_length (by omega),show aD (xs.drop (8*k)++[j])=aD (xs.drop (8*k))++[.int .i64 (j:Nat)] by simp[aD]];exact hown)
      have LM7:Hid ((Value.slice (some ⟨gg,0,none⟩) (l+1) cc).ownBlock=none\/(Value.slice (some ⟨gg,0,none⟩) (l+1) cc).ownBlock≠(Value.slice (some ⟨gM,0,none⟩) ms.length uG).ownBlock):=hid (aA3 λe=>by
       have e2:(Value.slice (some ⟨gM,0,none⟩) ms.length uG).ownBlock=some gg:=e.symm;rcases hat with h | h
       ·rcases Dr.out with h2 | h2
        ·rw[h]at h2;cases h2
        ·exact h2 (by rw[h,e2])
       ·have:=(Gt.out.lt gg e2).2;omega)
      have iG:=hid ((Ca.out.alloc Ca.out.size (.cells #[.int .i64 (j:Nat)] 3)).grown hgrow (by have:=Ca.out.size;simp;omega) (λq h=>by have:=uk.out q h;omega));clear hown hgrow hat b6 Gt Lg Uq Iy BS Dr Ca Fv far;go_wp2_with fail;go_roundw
      case rel=>exact⟨l+1,ms,xs++[j],by go_num,by omega,by rw[aA5,aBn];omega,afe,HEx,afc,M7,Ut,T7,O7,Ur,N7,Xf,L7,LM7,iG,by omega⟩
      case measure=>simp[intOf];omega
     ·have HEn:=hid (HWN.out (λm hm hlk=>(HTN.out m (HE.out.lt m hm)).1 (hall m hm) hlk));have arU:=LH HEn.out;rw[aA5,aBn]at arU;clear hall HWO HWN;have HMB:=hid (λq h=>(Gt.out.lt q h).1);have HMs:=hid (λq (h:(Value.slice (some ⟨gM,0,none⟩) ms.length uG).ownBlock=some q)=>(Gt.out.lt q h).2);go_wp2_with (at_builtin;go_must (refine aBw _ rfl (.tmp 61) (.tmp 63) 22 rfl w5.heap.size 3 i0 (.int .i64 0) 1 8 Tryz.underlying22 hi aR aP aN rfl (by decide) _ ms.length (aD ms) rfl (Gt.out.alloc _) ⟨W5.heap.size,0,none⟩ 1 1 [.int .i64 (n:Nat)] rfl rfl (dx W5 [.int .i64 (n:Nat)] _) (by intro y hy;simp at hy;rcases hy with rfl;rfl) (by decide) (by unfold maxLen;omega) (by omega) (by have:=Ca.out.size;simp;omega) (W5.heap.size+1) (by simp) ?_));intro g9 c9 w9 hown hgrow hat arZ;have b6:=(aAW W5.heap.size W5).alloc (aAU _) (.cells #[.int .i64 (n:Nat)] 3);have hs9:W5.heap.size<=w9.heap.size:=by
       have:=hgrow.size;simp at this;omega
      have OLt:=hid (λq (h:vO.ownBlock=some q)=>(Uq.out.lt q h).2);have VLt:=hid (λi (hi:i<k) q (h:(V i).ownBlock=some q)=>((Iy.out.row i hi).lt q h).2);have LLt:=hid (λq (h:u11.ownBlock=some q)=>(BS.out.lt q h).2);have akz:=Lg.out.lt;have T9:=hid (xP (Lg.out.below b6 akz) hgrow Ut.out);have O9:=hid ((ae Uq.out b6).kept hgrow Ur.out);have N9:=hid ((Iy.out.keeps b6).CJ hgrow (aC (Iy.out.keeps b6).out (Gt.out.alloc (.cells #[.int .i64 (n:Nat)] 3)) (by decide)) (λq hq=>aA3 (Xf.out q hq).1));have L9:=hid ((ae BS.out b6).kept hgrow Dr.out);have M9:Hid (w9.ownsRow w5.heap.size 3 1 (.slice (some ⟨g9,0,none⟩) (ms.length+1) c9) (ms++[n]).length (aD (ms++[n]))):=hid (by
       rw[aA5,show aD (ms++[n])=aD ms++[.int .i64 (n:Nat)] by simp[aD]];exact hown)
      have fresh:∀ q,q<W5.heap.size->q≠gM->q≠g9:=λq hq hne e=>by
       rcases hat with h | h
       ·exact hne (e.trans (Option.some.inj h).symm)
       ·omega
      have MT9:Hid ((Value.slice (some ⟨g9,0,none⟩) (ms.length+1) c9).ownBlock≠some (w5.heap.size+1)):=hid (λe=>fresh _ akz (λe2=>Ut.out (by rw[e2];rfl)) (Option.some.inj e).symm);have OM9:Hid (vO.ownBlock=none\/vO.ownBlock≠(Value.slice (some ⟨g9,0,none⟩) (ms.length+1) c9).ownBlock):=hid (by
       rcases Ur.out with h | h
       ·exact aA2 h
       ·cases hv:vO.ownBlock with
        | none=>exact aA2 rfl
        | some q=>exact aA3 λe=>fresh q (OLt.out q hv) (λe2=>h (by rw[hv,e2];rfl)) (Option.some.inj e))
      have D9:Hid (∀ i,i<k->(V i).ownBlock≠(Value.slice (some ⟨g9,0,none⟩) (ms.length+1) c9).ownBlock/\(V i).ownBlock≠vO.ownBlock):=hid (λi hi=>⟨λe=>by
       have e2:(V i).ownBlock=some g9:=e;exact fresh g9 (VLt.out i hi g9 e2) (λe3=>(Xf.out i hi).1 (by rw[e2,e3];rfl)) rfl,(Xf.out i hi).2⟩)
      have LM9:Hid (u11.ownBlock=none\/u11.ownBlock≠(Value.slice (some ⟨g9,0,none⟩) (ms.length+1) c9).ownBlock):=hid (by
       rcases Dr.out with h | h
       ·exact aA2 h
       ·cases hv:u11.ownBlock with
        | none=>exact aA2 rfl
        | some q=>exact aA3 λe=>fresh q (LLt.out q hv) (λe2=>h (by rw[hv,e2];rfl)) (Option.some.inj e))
      have B9:=hid ((Ca.out.alloc Ca.out.size (.cells #[.int .i64 (n:Nat)] 3)).grown hgrow (by have:=Ca.out.size;simp;omega) (λq h=>HMB.out q h));have afe:Hid ((ms++[n])[k]?=some m0):=hid (by rw[aA9 RU];exact dP.out);have afc:Hid (Ud out (ms++[n]) os k):=hid (ahY iF.out (by omega));have HEx:=HEn;have Gt:=M9;have Lg:=T9;have Uq:=O9;have Iy:=N9;have BS:=L9;have Ca:=B9;have Ut:=MT9;have Ur:=OM9;have Xf:=D9;have Dr:=LM9;have arG:W0.heap.size<=w9.heap.size:=by omega
      clear hown hgrow hat b6 fresh M9 T9 O9 N9 L9 B9 MT9 OM9 D9 LM9 OLt VLt LLt;obtain⟨dK,dJ,rfl⟩:=ai BS.out;have uk:=hid (λq h=>(BS.out.lt q h).1);go_wp2_with (at_builtin;go_must (refine aBw _ rfl (.tmp 65) (.tmp 67) 22 rfl W0.heap.size 3 i0 (.int .i64 0) 1 8 Tryz.underlying22 hi aR aP aN rfl (by decide) _ l (aD (xs.drop (8*k))) rfl (BS.out.alloc _) ⟨w9.heap.size,0,none⟩ 1 1 [.int .i64 (ms.length:Nat)] rfl rfl (dx w9 [.int .i64 (ms.length:Nat)] _) (by intro y hy;simp at hy;rcases hy with rfl;rfl) (by decide) (by unfold maxLen;omega) (by omega) (by simp;omega) (w9.heap.size+1) (by simp) ?_));intro gg cc w7 hown hgrow hat uD;have b6:=(aAW w9.heap.size w9).alloc (aAU _) (.cells #[.int .i64 (ms.length:Nat)] 3);have vE:w9.heap.size<=w7.heap.size:=by
       have:=hgrow.size;simp at this;omega
      have Sl:(Value.slice dK l dJ).ownBlock≠some (w5.heap.size+1):=λe=>by have:=uk.out _ e;omega
      have T7:=hid (xP (Lg.out.below b6 Lg.out.lt) hgrow Sl);have Fv:(Value.slice (some ⟨g9,0,none⟩) (ms.length+1) c9).ownBlock=none\/(Value.slice (some ⟨g9,0,none⟩) (ms.length+1) c9).ownBlock≠(Value.slice dK l dJ).ownBlock:=by
       rcases Dr.out with h | h
       ·rw[h];cases (Value.slice (some ⟨g9,0,none⟩) (ms.length+1) c9).ownBlock <;> simp
       ·exact aA3 λe=>h e.symm
      have M7:=hid ((ae Gt.out b6).kept hgrow Fv);have far:∀ q,q<W0.heap.size->some q≠(Value.slice dK l dJ).ownBlock:=λq hq e=>by have:=uk.out q e.symm;omega
      have O7:=hid ((ae Uq.out b6).kept hgrow (by
       cases hv:vO.ownBlock with
       | none=>exact aA2 rfl
       | some q=>exact aA3 (far q (Lm.out q hv))))
      have N7:=(Iy.out.keeps b6).CJ hgrow (aC (Iy.out.keeps b6).out (BS.out.alloc (.cells #[.int .i64 (ms.length:Nat)] 3)) (by decide)) (λq hq=>by
       cases hv:(V q).ownBlock with
       | none=>exact aA2 rfl
       | some z=>exact aA3 (far z (Lf.out q hq z hv)))
      have N7:Hid (iE w7 (w5.heap.size+2) 22 3 vN k V (λq=>aD (ll (xs++[ms.length]) q))):=hid ⟨N7.out,λq hq=>by
       rw[IY (by omega)];exact N7.row q hq⟩
      have L7:Hid (w7.ownsRow W0.heap.size 3 1 (.slice (some ⟨gg,0,none⟩) (l+1) cc) (l+1) (aD ((xs++[ms.length]).drop (8*k)))):=hid (by
       rw[List.drop_append_of_le_length (by omega),show aD (xs.drop (8*k)++[ms.length])=aD (xs.drop (8*k))++[.int .i64 (ms.length:Nat)] by simp[aD]];exact hown)
      have LM7:Hid ((Value.slice (some ⟨gg,0,none⟩) (l+1) cc).ownBlock=none\/(Value.slice (some ⟨gg,0,none⟩) (l+1) cc).ownBlock≠(Value.slice (some ⟨g9,0,none⟩) (ms.length+1) c9).ownBlock):=hid (aA3 λe=>by
       have e2:(Value.slice (some ⟨g9,0,none⟩) (ms.length+1) c9).ownBlock=some gg:=e.symm;rcases hat with h | h
       ·rcases Dr.out with h2 | h2
        ·rw[h]at h2;cases h2
        ·exact h2 (by rw[h,e2])
       ·have:=(Gt.out.lt gg e2).2;omega)
      have iG:=hid ((Ca.out.alloc Ca.out.size (.cells #[.int .i64 (ms.length:Nat)] 3)).grown hgrow (by have:=Ca.out.size;simp;omega) (λq h=>by have:=uk.out q h;omega));clear hown hgrow hat b6 Gt Lg Uq Iy BS Dr Ca Fv far;go_wp2_with fail;go_roundw
      case rel=>exact⟨l+1,ms++[n],xs++[ms.length],by go_num,by omega,by rw[aA5,aBn];omega,afe,HEx,afc,M7,Ut,T7,O7,Ur,N7,Xf,L7,LM7,iG,by omega⟩
      case measure=>simp[intOf];omega
    ·obtain rfl:l=8:=by omega
     have t0:=HT.out.c0;have Om:=HT.out.lt;have p1:=(HB.out.cell (p:=⟨w3.heap.size,1,none⟩) hP).trans f1;have om:=(HB.out.cell (p:=⟨gO,m0,none⟩) Kq).trans (BP.out m0 aeg);have hoK:=iF.out.1;obtain⟨zT,zL,rfl⟩:=ai HO.out;have YZ:=hid (λq (h:(Value.slice zT k zL).ownBlock=some q)=>(HO.out.lt q h));have alH:=hid (λi (hi:i<k) q (h:(V i).ownBlock=some q)=>((HN.out.row i hi).lt q h).2);have DU:(Value.slice zT k zL).ownBlock≠some gM:=λe=>by
      rcases HOM.out with h | h
      ·rw[e]at h;cases h
      ·exact h (by rw[e];rfl)
     have HZ:Hid (W3.cell? ⟨w3.heap.size,1,none⟩=some (.slice (some ⟨gO,0,none⟩) K wC)/\W3.cell? ⟨gM,k,none⟩=some (.int .i64 (m0:Nat))/\W3.cell? ⟨gO,m0,none⟩=some (.int .i64 (out m0:Nat))):=hid ⟨p1,c1,om⟩;have Mq:gM<W3.heap.size:=akq;have H9:w3.heap.size<W3.heap.size:=by have:=HB.out.size;omega
     have hOW:gO<W3.heap.size:=by have:=HB.out.size;omega
     have z1:(k:Int)<(ms.length:Int):=by omega
     have z2:(m0:Int)<(K:Int):=by omega
     go_wp2_with fail;refine wp_region_held_drew (S:=λW=>W.cell? ⟨w3.heap.size,1,none⟩=some (.slice (some ⟨gO,0,none⟩) K wC)/\W.cell? ⟨gM,k,none⟩=some (.int .i64 (m0:Nat))/\W.cell? ⟨gO,m0,none⟩=some (.int .i64 (out m0:Nat))) (by kernel_rfl) HZ.out (λau=>?_);refine aA4 (i:=0) (oi:={ dst:=some 69,op:=Op.fieldAddr _ (.tmp 9) 0,type:=_,pos:=_,after:=_,guard:=none }) (v:=(Value.pointer (some ⟨w5.heap.size+1,0,none⟩))) rfl (by kernel_rfl) (by kernel_rfl) (by kernel_rfl) (λ_ _ _ h=>h) (aA2 ⟨by rfl,by intro w' af;(try dsimp only at af);go_simp⟩) (by assumption) ?_
     simp only[Act.put,aAT,aAX,aAY];refine aA4 (i:=2) (oi:={ dst:=some 71,op:=Op.move (.tmp 6),type:=_,pos:=_,after:=_,guard:=none }) (v:=(Value.pointer (some ⟨w3.heap.size,0,none⟩))) rfl (by kernel_rfl) (by kernel_rfl) (by kernel_rfl) (λ_ _ _ h=>h) (aA2 ⟨by rfl,by intro w' af;(try dsimp only at af);go_simp⟩) (by assumption) ?_
     simp only[Act.put,aAT,aAX,aAY];refine aA4 (i:=3) (oi:={ dst:=some 72,op:=Op.nilCheck (.tmp 71),type:=_,pos:=_,after:=_,guard:=none }) (v:=(Value.pointer (some ⟨w3.heap.size,0,none⟩))) rfl (by kernel_rfl) (by kernel_rfl) (by kernel_rfl) (λ_ _ _ h=>h) (aA2 ⟨by rfl,by intro w' af;(try dsimp only at af);go_simp⟩) (by assumption) ?_
     simp only[Act.put,aAT,aAX,aAY];refine aA4 (i:=4) (oi:={ dst:=some 73,op:=Op.fieldAddr _ (.tmp 72) 1,type:=_,pos:=_,after:=_,guard:=none }) (v:=(Value.pointer (some ⟨w3.heap.size,1,none⟩))) rfl (by kernel_rfl) (by kernel_rfl) (by kernel_rfl) (λ_ _ _ h=>h) (aA2 ⟨by rfl,by intro w' af;(try dsimp only at af);go_simp⟩) (by assumption) ?_
     simp only[Act.put,aAT,aAX,aAY];refine aA4 (i:=5) (oi:={ dst:=some 74,op:=Op.load _ (.tmp 73),type:=_,pos:=_,after:=_,guard:=none }) (v:=(Value.slice (some ⟨gO,0,none⟩) K wC)) rfl (by kernel_rfl) (by kernel_rfl) (by kernel_rfl) (λ_ _ _ h=>h) (aA2 ⟨by rfl,by intro w' af;obtain⟨s0,s1,s2⟩:=af;go_simp⟩) (by assumption) ?_;simp only[Act.put,aAT,aAX,aAY];refine aA4 (i:=6) (oi:={ dst:=some 75,op:=Op.move (.tmp 8),type:=_,pos:=_,after:=_,guard:=none }) (v:=(Value.slice (some ⟨gM,0,none⟩) ms.length uG)) rfl (by kernel_rfl) (by kernel_rfl) (by kernel_rfl) (λ_ _ _ h=>h) (aA2 ⟨by rfl,by intro w' af;(try dsimp only at af);go_simp⟩) (by assumption) ?_
     simp only[Act.put,aAT,aAX,aAY];refine aA4 (i:=7) (oi:={ dst:=some 76,op:=Op.move (.tmp 10),type:=_,pos:=_,after:=_,guard:=none }) (v:=(Value.int .i64 (k:Nat))) rfl (by kernel_rfl) (by kernel_rfl) (by kernel_rfl) (λ_ _ _ h=>h) (aA2 ⟨by rfl,by intro w' af;(try dsimp only at af);go_simp⟩) (by assumption) ?_
     simp only[Act.put,aAT,aAX,aAY];refine aA4 (i:=8) (oi:={ dst:=some 77,op:=Op.indexAddr _ (.tmp 75) (.tmp 76),type:=_,pos:=_,after:=_,guard:=none }) (v:=(Value.pointer (some ⟨gM,k,none⟩))) rfl (by kernel_rfl) (by kernel_rfl) (by kernel_rfl) (λ_ _ _ h=>h) (aA2 ⟨by rfl,by intro w' af;(try dsimp only at af);go_simp⟩) (by assumption) ?_
     simp only[Act.put,aAT,aAX,aAY];refine aA4 (i:=9) (oi:={ dst:=some 78,op:=Op.load _ (.tmp 77),type:=_,pos:=_,after:=_,guard:=none }) (v:=(Value.int .i64 (m0:Nat))) rfl (by kernel_rfl) (by kernel_rfl) (by kernel_rfl) (λ_ _ _ h=>h) (aA2 ⟨by rfl,by intro w' af;obtain⟨s0,s1,s2⟩:=af;go_simp⟩) (by assumption) ?_;simp only[Act.put,aAT,aAX,aAY];refine aA4 (i:=10) (oi:={ dst:=some 79,op:=Op.indexAddr _ (.tmp 74) (.tmp 78),type:=_,pos:=_,after:=_,guard:=none }) (v:=(Value.pointer (some ⟨gO,m0,none⟩))) rfl (by kernel_rfl) (by kernel_rfl) (by kernel_rfl) (λ_ _ _ h=>h) (aA2 ⟨by rfl,by intro w' af;(try dsimp only at af);go_simp⟩) (by assumption) ?_
     simp only[Act.put,aAT,aAX,aAY];refine aA4 (i:=11) (oi:={ dst:=some 80,op:=Op.load _ (.tmp 79),type:=_,pos:=_,after:=_,guard:=none }) (v:=(Value.int .i64 (out m0:Nat))) rfl (by kernel_rfl) (by kernel_rfl) (by kernel_rfl) (λ_ _ _ h=>h) (aA2 ⟨by rfl,by intro w' af;obtain⟨s0,s1,s2⟩:=af;go_simp⟩) (by assumption) ?_;simp only[Act.put,aAT,aAX,aAY];refine aBc (rs:=[1,12]) (by kernel_rfl) (by simp) ?_;refine aA7 rfl (λK9 hK9=>?_) (aA7 rfl (λK9 hK9=>?_) aBb)
     ·go_simp
      refine hK9.out _ _ (by assumption) (λau=>?_);clear hK9 K9;refine aBc (rs:=[12]) (by kernel_rfl) (by simp) ?_;refine aA7 rfl (λK9 hK9=>?_) aBb
      go_simp
      refine hK9.out _ _ ⟨by show (W3.alloc _).cell? _=_;rw[aBt _ _ _ H9];exact HZ.out.1,by show (W3.alloc _).cell? _=_;rw[aBt _ _ _ Mq];exact HZ.out.2.1,by show (W3.alloc _).cell? _=_;rw[aBt _ _ _ hOW];exact HZ.out.2.2⟩ (λau=>?_);clear hK9 K9;refine aBc (rs:=[13]) (by kernel_rfl) (by simp) ?_;refine aA7 rfl (λK9 hK9=>?_) aBb;refine aBN _ (by rfl) (.tmp 70) (.tmp 81) 22 (by rfl) (w5.heap.size+2) 3 i0 (.int .i64 0) 1 8 Tryz.underlying22 hi aR aP aN rfl (by decide) _ k (aD os) (by rfl) ((HO.out.alloc _).drew) ⟨W3.heap.size,0,none⟩ 1 1 [.int .i64 (out m0:Nat)] (by rfl) (by rfl) (dx W3 [.int .i64 (out m0:Nat)] _) (by intro y hy;simp at hy;rcases hy with rfl;rfl) (by decide) (by unfold maxLen;omega) (by omega) (by simp;omega) (W3.heap.size+1) (by simp) ?_;intro gg cc w2 hown hgrow hat gu;have Jf:W3.heap.size+1<=w2.heap.size:=by
       have h4:(W3.drew.alloc (.cells #[.int .i64 (out m0:Nat)] 3)).heap.size<=w2.heap.size:=hgrow.size;rw[aAZ]at h4;exact h4
      have gF:KB W3 w2 (W3.heap.size+w2.heap.size+1) (Value.slice zT k zL).ownBlock none:=⟨hgrow.os,hgrow.tape,hgrow.output,by omega,λq hq h1 h2 _=>by
       rw[hgrow.block q (by show q<(W3.alloc (.cells #[.int .i64 (out m0:Nat)] 3)).heap.size;rw[aAZ];omega) h2];show (W3.alloc (.cells #[.int .i64 (out m0:Nat)] 3)).heap[q]?=_;rw[aBl _ _ _ (by omega)]⟩
      have qJ:∀ q,q<w5.heap.size+2->some q≠(Value.slice zT k zL).ownBlock:=λq hq e=>by have:=(YZ.out q e.symm).1;omega
      have keep:∀ q,q<W3.heap.size->some q≠(Value.slice zT k zL).ownBlock->w2.heap[q]?=W3.heap[q]?:=λq hq h=>gF.block q hq (by omega) h (by simp);have nT:∀ (v:Value) B e s n ys,W3.ownsRow B e s v n ys->v.ownBlock≠some (W3.heap.size+w2.heap.size+1):=λv B e s n ys h e9=>by have:=(h.lt _ e9).2;omega
      have T2:Two w2 (w5.heap.size+1) (.slice zT k zL) vN:=⟨(aBf (a:=⟨w5.heap.size+1,0,none⟩) (keep _ Om (qJ (w5.heap.size+1) (by omega)))).trans HT.out.c0,(aBf (a:=⟨w5.heap.size+1,1,none⟩) (keep _ Om (qJ (w5.heap.size+1) (by omega)))).trans HT.out.c1,(aBg (a:=⟨w5.heap.size+1,0,none⟩) (keep _ Om (qJ (w5.heap.size+1) (by omega)))).trans HT.out.f0,(aBg (a:=⟨w5.heap.size+1,1,none⟩) (keep _ Om (qJ (w5.heap.size+1) (by omega)))).trans HT.out.f1⟩;have g2:w2.cell? ⟨w3.heap.size,1,none⟩=some (.slice (some ⟨gO,0,none⟩) K wC)/\w2.cell? ⟨gM,k,none⟩=some (.int .i64 (m0:Nat))/\w2.cell? ⟨gO,m0,none⟩=some (.int .i64 (out m0:Nat)):=⟨(aBf (a:=⟨w3.heap.size,1,none⟩) (keep _ H9 (qJ w3.heap.size (by omega)))).trans HZ.out.1,(aBf (a:=⟨gM,k,none⟩) (keep _ Mq (λe=>DU e.symm))).trans HZ.out.2.1,(aBf (a:=⟨gO,m0,none⟩) (keep _ hOW (qJ gO (by omega)))).trans HZ.out.2.2⟩;have D1:=hid (T2.set0 (.slice (some ⟨gg,0,none⟩) (k+1) cc));have D2:Hid ((w2.setCell ⟨w5.heap.size+1,0,none⟩ (.slice (some ⟨gg,0,none⟩) (k+1) cc)).ownsRow (w5.heap.size+2) 3 1 (.slice (some ⟨gg,0,none⟩) (k+1) cc) (k+1) (aD (os++[out m0]))):=hid (ax (by
       rw[show aD (os++[out m0])=aD os++[.int .i64 (out m0:Nat)] by simp[aD]];exact hown) (by omega) _ _)
      have D3:=hid (bz (dI HM.out gF (nT _ _ _ _ _ _ HM.out) (aA3 λe=>DU e.symm) (by simp[Value.ownBlock])) ⟨w5.heap.size+1,0,none⟩ (.slice (some ⟨gg,0,none⟩) (k+1) cc) Gu.out);have D4:=hid (ax (dI ui.out gF (nT _ _ _ _ _ _ ui.out) (by
       cases hv:u11.ownBlock with
       | none=>exact aA2 rfl
       | some q=>
        refine aA3 λe=>?_;have h1:=(ui.out.lt q hv).1;have h2:=Lm.out q e.symm;omega) (by cases u11.ownBlock <;> simp)) (show w5.heap.size+1<W0.heap.size by omega) 0 (.slice (some ⟨gg,0,none⟩) (k+1) cc))
      have N2:iE w2 (w5.heap.size+2) 22 3 vN k V (λq=>aD (ll xs q)):=⟨dI HN.out.out gF (nT _ _ _ _ _ _ HN.out.out) (aC HN.out.out HO.out (by decide)) (by cases vN.ownBlock <;> simp),λi hi=>dI (HN.out.row i hi) gF (nT _ _ _ _ _ _ (HN.out.row i hi)) (aA3 (HD.out i hi).2) (by cases (V i).ownBlock <;> simp)⟩
      have D5:=hid (N2.set (show w5.heap.size+1<w5.heap.size+2 by omega) 0 (.slice (some ⟨gg,0,none⟩) (k+1) cc));have fresh:∀ q,q<W3.heap.size->some q≠(Value.slice zT k zL).ownBlock->q≠gg:=λq hq hne e=>by
       rcases hat with h | h
       ·exact hne (by rw[h,e])
       ·omega
      have D6:Hid (((.slice (some ⟨gg,0,none⟩) (k+1) cc):Value).ownBlock=none\/((.slice (some ⟨gg,0,none⟩) (k+1) cc):Value).ownBlock≠(Value.slice (some ⟨gM,0,none⟩) ms.length uG).ownBlock):=hid (aA3 λe=>fresh gM Mq (λe2=>DU e2.symm) (Option.some.inj e).symm);have D7:Hid (∀ i,i<k->(V i).ownBlock≠(Value.slice (some ⟨gM,0,none⟩) ms.length uG).ownBlock/\(V i).ownBlock≠((.slice (some ⟨gg,0,none⟩) (k+1) cc):Value).ownBlock):=hid (λi hi=>⟨(HD.out i hi).1,λe=>by
       have e2:(V i).ownBlock=some gg:=e;exact fresh gg (alH.out i hi gg e2) (λe3=>(HD.out i hi).2 (by rw[e2,e3])) rfl⟩)
      have D8:Hid (u11.ownBlock≠((.slice (some ⟨gg,0,none⟩) (k+1) cc):Value).ownBlock):=hid (λe=>by
       have e2:u11.ownBlock=some gg:=e;have h1:=ui.out.lt gg e2;rcases hat with h | h
       ·have:=Lm.out gg h;omega
       ·omega)
      have D9:=hid (((aBd (HB.out.alloc HB.out.size (.cells #[.int .i64 (out m0:Nat)] 3)) 1).grown hgrow (by have h9:=HB.out.size;show w5.heap.size<=(W3.alloc _).heap.size;simp;omega) (λq h=>by have:=(YZ.out q h).1;omega)).setCell (p:=⟨w5.heap.size+1,0,none⟩) (by show w5.heap.size<=w5.heap.size+1;omega) (.slice (some ⟨gg,0,none⟩) (k+1) cc));refine hK9.out _ _ g2 (λau=>?_);have jw:Hid ((w2.setCell ⟨w5.heap.size+1,0,none⟩ (.slice (some ⟨gg,0,none⟩) (k+1) cc)).cell? ⟨w3.heap.size,1,none⟩=some (.slice (some ⟨gO,0,none⟩) K wC)/\(w2.setCell ⟨w5.heap.size+1,0,none⟩ (.slice (some ⟨gg,0,none⟩) (k+1) cc)).cell? ⟨gM,k,none⟩=some (.int .i64 (m0:Nat))/\(w2.setCell ⟨w5.heap.size+1,0,none⟩ (.slice (some ⟨gg,0,none⟩) (k+1) cc)).cell? ⟨gO,m0,none⟩=some (.int .i64 (out m0:Nat))):=hid ⟨by rw[aA0 _ _ _ _ (λe=>by have:=congrArg Addr.block e;simp at this;omega)];exact g2.1,by rw[aA0 _ _ _ _ (λe=>Gu.out (by have:=congrArg Addr.block e;simp at this;rw[this];rfl))];exact g2.2.1,by rw[aA0 _ _ _ _ (λe=>by have:=congrArg Addr.block e;simp at this;omega)];exact g2.2.2⟩;have c2:=T2.c0;have f9:=T2.f0;clear hK9 K9 hown hgrow hat g2 T2 gF keep nT N2 fresh qJ;simp only[Act.put,aAT];refine aA4 (i:=14) (oi:={ dst:=some 83,op:=Op.fieldAddr _ (.tmp 9) 0,type:=_,pos:=_,after:=_,guard:=none }) (v:=(Value.pointer (some ⟨w5.heap.size+1,0,none⟩))) rfl (by kernel_rfl) (by kernel_rfl) (by kernel_rfl) (λ_ _ _ h=>h) (aA2 ⟨by rfl,by intro w' af;(try dsimp only at af);go_simp⟩) (by assumption) ?_
      simp only[Act.put];refine aBc (rs:=[15]) (by kernel_rfl) (by simp) ?_;refine aA7 rfl (λK9 hK9=>?_) aBb
      go_simp
      refine hK9.out _ _ jw.out (λau=>?_);clear hK9 K9;refine aBS (by kernel_rfl) ?_ _;clear au c2 f9 jw;have arD:W3.heap.size<(w2.setCell ⟨w5.heap.size+1,0,none⟩ (.slice (some ⟨gg,0,none⟩) (k+1) cc)).heap.size:=by rw[aBj];omega
      generalize w2.setCell ⟨w5.heap.size+1,0,none⟩ (.slice (some ⟨gg,0,none⟩) (k+1) cc)=W6 at *;clear HT HO HM HN ui HB HD t0 p1 om c1 HZ;have Ue:=hid (VM iF.out dP.out);have q0:=D1.out.c1;have q1:=D1.out.f1;obtain⟨zU,zM,rfl⟩:=ai D5.out.out;obtain⟨dK,dJ,rfl⟩:=ai D4.out;have b6:=(aAW W6.heap.size W6).alloc (aAU _) (.cells #[.slice dK 8 dJ] 22);go_wp2_with (at_builtin;go_must (refine aBw _ rfl (.tmp 85) (.tmp 87) 23 rfl (w5.heap.size+2) 22 i1 (.slice none 0 0) 1 24 Tryz.underlying23 iC fe eZ eY rfl (by decide) _ k ((List.range k).map V) rfl (D5.out.out.alloc _) ⟨W6.heap.size,0,none⟩ 1 1 [.slice dK 8 dJ] rfl rfl (dx W6 [.slice dK 8 dJ] _) (by intro y hy;simp at hy;rcases hy with rfl;rfl) (by decide) (by unfold maxLen;omega) (by omega) (by simp;omega) (W6.heap.size+1) (by simp) ?_));intro g8 c8 w8 hown hgrow hat ar0;have DK:W6.heap.size<=w8.heap.size:=by
       have:=hgrow.size;simp at this;omega
      have tQ:(Value.slice zU k zM).ownBlock≠some (w5.heap.size+1):=λe=>by have:=(D5.out.out.lt _ e).1;omega
      have T8:=xP (D1.out.below b6 D1.out.lt) hgrow tQ;have RJ:(aD (ll xs k)).length=8:=by rw[mD,xB]
      have rJ:=(bJ D4.out (show w5.heap.size+2<=W0.heap.size by omega)).alloc (.cells #[.slice dK 8 dJ] 22);rw[IZ (by omega)]at rJ;have N8:=oI (D5.out.keeps b6) (x:=.slice dK 8 dJ) (by rw[RJ];exact rJ) (by decide) hgrow hown;have ow:W6.alloc (.cells #[.slice dK 8 dJ] 22)=W6.alloc (.cells #[.slice dK 8 dJ] 22):=rfl;have BI:=D5.out.out.alloc (.cells #[.slice dK 8 dJ] 22);have O8:=(ae D2.out b6).kept hgrow (aC (ae D2.out b6) BI (by decide));have M8:=(ae D3.out b6).kept hgrow (aC (ae D3.out b6) BI (by decide));have r0:=T8.c1;have r1:=T8.f1;have E1:=hid (T8.set1 (.slice (some ⟨g8,0,none⟩) (k+1) c8));have E2:=hid (N8.set (show w5.heap.size+1<w5.heap.size+2 by omega) 1 (.slice (some ⟨g8,0,none⟩) (k+1) c8));have E3:=hid (ax O8 (show w5.heap.size+1<w5.heap.size+2 by omega) 1 (.slice (some ⟨g8,0,none⟩) (k+1) c8));have E4:=hid (bz M8 ⟨w5.heap.size+1,1,none⟩ (.slice (some ⟨g8,0,none⟩) (k+1) c8) Gu.out);have E5:Hid (∀ i,i<k+1->((λi=>if i=k then Value.slice dK 8 dJ else V i) i).ownBlock≠(Value.slice (some ⟨gM,0,none⟩) ms.length uG).ownBlock/\((λi=>if i=k then Value.slice dK 8 dJ else V i) i).ownBlock≠((.slice (some ⟨gg,0,none⟩) (k+1) cc):Value).ownBlock):=hid (λi hi=>by
       by_cases c:i=k
       ·simp only[c,if_true];refine⟨?_,D8.out⟩;rcases nJ.out with h | h
        ·obtain⟨g9,h9,_⟩:=dX D4.out (by omega);subst h9;simp[Value.ownBlock]at h
        ·exact h
       ·simp only[c,if_false];exact D7.out i (by omega))
      have E6:=hid (((D9.out.alloc D9.out.size (.cells #[.slice dK 8 dJ] 22)).grown hgrow (by have:=D9.out.size;simp;omega) (λq h=>by have:=(D5.out.out.lt q h).1;omega)).setCell (p:=⟨w5.heap.size+1,1,none⟩) (by show w5.heap.size<=w5.heap.size+1;omega) (.slice (some ⟨g8,0,none⟩) (k+1) c8));clear hown hgrow hat b6 ow BI O8 M8 N8 T8 rJ D1 D2 D3 D4 D5 D9 tQ;go_wp2_with fail;go_roundw
      case rel=>exact⟨k+1,ms,xs,os++[out m0],_,_,_,by go_num,by omega,by omega,HE,Ue,E4,Gu,E1,E3,D6,E2,E5,E6,by simp;omega⟩
      case measure=>simp[intOf];omega
     ·go_simp
      refine hK9.out _ _ ⟨by show (W3.alloc _).cell? _=_;rw[aBt _ _ _ H9];exact HZ.out.1,by show (W3.alloc _).cell? _=_;rw[aBt _ _ _ Mq];exact HZ.out.2.1,by show (W3.alloc _).cell? _=_;rw[aBt _ _ _ hOW];exact HZ.out.2.2⟩ (λau=>?_);clear hK9 K9;refine aBc (rs:=[1]) (by kernel_rfl) (by simp) ?_;refine aA7 rfl (λK9 hK9=>?_) aBb
      go_simp
      refine hK9.out _ _ (by assumption) (λau=>?_);clear hK9 K9;refine aBc (rs:=[13]) (by kernel_rfl) (by simp) ?_;refine aA7 rfl (λK9 hK9=>?_) aBb;refine aBN _ (by rfl) (.tmp 70) (.tmp 81) 22 (by rfl) (w5.heap.size+2) 3 i0 (.int .i64 0) 1 8 Tryz.underlying22 hi aR aP aN rfl (by decide) _ k (aD os) (by rfl) ((HO.out.alloc _).drew) ⟨W3.heap.size,0,none⟩ 1 1 [.int .i64 (out m0:Nat)] (by rfl) (by rfl) (dx W3 [.int .i64 (out m0:Nat)] _) (by intro y hy;simp at hy;rcases hy with rfl;rfl) (by decide) (by unfold maxLen;omega) (by omega) (by simp;omega) (W3.heap.size+1) (by simp) ?_;intro gg cc w2 hown hgrow hat gu;have Jf:W3.heap.size+1<=w2.heap.size:=by
       have h4:(W3.drew.alloc (.cells #[.int .i64 (out m0:Nat)] 3)).heap.size<=w2.heap.size:=hgrow.size;rw[aAZ]at h4;exact h4
      have gF:KB W3 w2 (W3.heap.size+w2.heap.size+1) (Value.slice zT k zL).ownBlock none:=⟨hgrow.os,hgrow.tape,hgrow.output,by omega,λq hq h1 h2 _=>by
       rw[hgrow.block q (by show q<(W3.alloc (.cells #[.int .i64 (out m0:Nat)] 3)).heap.size;rw[aAZ];omega) h2];show (W3.alloc (.cells #[.int .i64 (out m0:Nat)] 3)).heap[q]?=_;rw[aBl _ _ _ (by omega)]⟩
      have qJ:∀ q,q<w5.heap.size+2->some q≠(Value.slice zT k zL).ownBlock:=λq hq e=>by have:=(YZ.out q e.symm).1;omega
      have keep:∀ q,q<W3.heap.size->some q≠(Value.slice zT k zL).ownBlock->w2.heap[q]?=W3.heap[q]?:=λq hq h=>gF.block q hq (by omega) h (by simp);have nT:∀ (v:Value) B e s n ys,W3.ownsRow B e s v n ys->v.ownBlock≠some (W3.heap.size+w2.heap.size+1):=λv B e s n ys h e9=>by have:=(h.lt _ e9).2;omega
      have T2:Two w2 (w5.heap.size+1) (.slice zT k zL) vN:=⟨(aBf (a:=⟨w5.heap.size+1,0,none⟩) (keep _ Om (qJ (w5.heap.size+1) (by omega)))).trans HT.out.c0,(aBf (a:=⟨w5.heap.size+1,1,none⟩) (keep _ Om (qJ (w5.heap.size+1) (by omega)))).trans HT.out.c1,(aBg (a:=⟨w5.heap.size+1,0,none⟩) (keep _ Om (qJ (w5.heap.size+1) (by omega)))).trans HT.out.f0,(aBg (a:=⟨w5.heap.size+1,1,none⟩) (keep _ Om (qJ (w5.heap.size+1) (by omega)))).trans HT.out.f1⟩;have g2:w2.cell? ⟨w3.heap.size,1,none⟩=some (.slice (some ⟨gO,0,none⟩) K wC)/\w2.cell? ⟨gM,k,none⟩=some (.int .i64 (m0:Nat))/\w2.cell? ⟨gO,m0,none⟩=some (.int .i64 (out m0:Nat)):=⟨(aBf (a:=⟨w3.heap.size,1,none⟩) (keep _ H9 (qJ w3.heap.size (by omega)))).trans HZ.out.1,(aBf (a:=⟨gM,k,none⟩) (keep _ Mq (λe=>DU e.symm))).trans HZ.out.2.1,(aBf (a:=⟨gO,m0,none⟩) (keep _ hOW (qJ gO (by omega)))).trans HZ.out.2.2⟩;have D1:=hid (T2.set0 (.slice (some ⟨gg,0,none⟩) (k+1) cc));have D2:Hid ((w2.setCell ⟨w5.heap.size+1,0,none⟩ (.slice (some ⟨gg,0,none⟩) (k+1) cc)).ownsRow (w5.heap.size+2) 3 1 (.slice (some ⟨gg,0,none⟩) (k+1) cc) (k+1) (aD (os++[out m0]))):=hid (ax (by
       rw[show aD (os++[out m0])=aD os++[.int .i64 (out m0:Nat)] by simp[aD]];exact hown) (by omega) _ _)
      have D3:=hid (bz (dI HM.out gF (nT _ _ _ _ _ _ HM.out) (aA3 λe=>DU e.symm) (by simp[Value.ownBlock])) ⟨w5.heap.size+1,0,none⟩ (.slice (some ⟨gg,0,none⟩) (k+1) cc) Gu.out);have D4:=hid (ax (dI ui.out gF (nT _ _ _ _ _ _ ui.out) (by
       cases hv:u11.ownBlock with
       | none=>exact aA2 rfl
       | some q=>
        refine aA3 λe=>?_;have h1:=(ui.out.lt q hv).1;have h2:=Lm.out q e.symm;omega) (by cases u11.ownBlock <;> simp)) (show w5.heap.size+1<W0.heap.size by omega) 0 (.slice (some ⟨gg,0,none⟩) (k+1) cc))
      have N2:iE w2 (w5.heap.size+2) 22 3 vN k V (λq=>aD (ll xs q)):=⟨dI HN.out.out gF (nT _ _ _ _ _ _ HN.out.out) (aC HN.out.out HO.out (by decide)) (by cases vN.ownBlock <;> simp),λi hi=>dI (HN.out.row i hi) gF (nT _ _ _ _ _ _ (HN.out.row i hi)) (aA3 (HD.out i hi).2) (by cases (V i).ownBlock <;> simp)⟩
      have D5:=hid (N2.set (show w5.heap.size+1<w5.heap.size+2 by omega) 0 (.slice (some ⟨gg,0,none⟩) (k+1) cc));have fresh:∀ q,q<W3.heap.size->some q≠(Value.slice zT k zL).ownBlock->q≠gg:=λq hq hne e=>by
       rcases hat with h | h
       ·exact hne (by rw[h,e])
       ·omega
      have D6:Hid (((.slice (some ⟨gg,0,none⟩) (k+1) cc):Value).ownBlock=none\/((.slice (some ⟨gg,0,none⟩) (k+1) cc):Value).ownBlock≠(Value.slice (some ⟨gM,0,none⟩) ms.length uG).ownBlock):=hid (aA3 λe=>fresh gM Mq (λe2=>DU e2.symm) (Option.some.inj e).symm);have D7:Hid (∀ i,i<k->(V i).ownBlock≠(Value.slice (some ⟨gM,0,none⟩) ms.length uG).ownBlock/\(V i).ownBlock≠((.slice (some ⟨gg,0,none⟩) (k+1) cc):Value).ownBlock):=hid (λi hi=>⟨(HD.out i hi).1,λe=>by
       have e2:(V i).ownBlock=some gg:=e;exact fresh gg (alH.out i hi gg e2) (λe3=>(HD.out i hi).2 (by rw[e2,e3])) rfl⟩)
      have D8:Hid (u11.ownBlock≠((.slice (some ⟨gg,0,none⟩) (k+1) cc):Value).ownBlock):=hid (λe=>by
       have e2:u11.ownBlock=some gg:=e;have h1:=ui.out.lt gg e2;rcases hat with h | h
       ·have:=Lm.out gg h;omega
       ·omega)
      have D9:=hid (((aBd (HB.out.alloc HB.out.size (.cells #[.int .i64 (out m0:Nat)] 3)) 1).grown hgrow (by have h9:=HB.out.size;show w5.heap.size<=(W3.alloc _).heap.size;simp;omega) (λq h=>by have:=(YZ.out q h).1;omega)).setCell (p:=⟨w5.heap.size+1,0,none⟩) (by show w5.heap.size<=w5.heap.size+1;omega) (.slice (some ⟨gg,0,none⟩) (k+1) cc));refine hK9.out _ _ g2 (λau=>?_);have jw:Hid ((w2.setCell ⟨w5.heap.size+1,0,none⟩ (.slice (some ⟨gg,0,none⟩) (k+1) cc)).cell? ⟨w3.heap.size,1,none⟩=some (.slice (some ⟨gO,0,none⟩) K wC)/\(w2.setCell ⟨w5.heap.size+1,0,none⟩ (.slice (some ⟨gg,0,none⟩) (k+1) cc)).cell? ⟨gM,k,none⟩=some (.int .i64 (m0:Nat))/\(w2.setCell ⟨w5.heap.size+1,0,none⟩ (.slice (some ⟨gg,0,none⟩) (k+1) cc)).cell? ⟨gO,m0,none⟩=some (.int .i64 (out m0:Nat))):=hid ⟨by rw[aA0 _ _ _ _ (λe=>by have:=congrArg Addr.block e;simp at this;omega)];exact g2.1,by rw[aA0 _ _ _ _ (λe=>Gu.out (by have:=congrArg Addr.block e;simp at this;rw[this];rfl))];exact g2.2.1,by rw[aA0 _ _ _ _ (λe=>by have:=congrArg Addr.block e;simp at this;omega)];exact g2.2.2⟩;have c2:=T2.c0;have f9:=T2.f0;clear hK9 K9 hown hgrow hat g2 T2 gF keep nT N2 fresh qJ;simp only[Act.put,aAT];refine aA4 (i:=14) (oi:={ dst:=some 83,op:=Op.fieldAddr _ (.tmp 9) 0,type:=_,pos:=_,after:=_,guard:=none }) (v:=(Value.pointer (some ⟨w5.heap.size+1,0,none⟩))) rfl (by kernel_rfl) (by kernel_rfl) (by kernel_rfl) (λ_ _ _ h=>h) (aA2 ⟨by rfl,by intro w' af;(try dsimp only at af);go_simp⟩) (by assumption) ?_
      simp only[Act.put];refine aBc (rs:=[15]) (by kernel_rfl) (by simp) ?_;refine aA7 rfl (λK9 hK9=>?_) aBb
      go_simp
      refine hK9.out _ _ jw.out (λau=>?_);clear hK9 K9;refine aBS (by kernel_rfl) ?_ _;clear au c2 f9 jw;have arD:W3.heap.size<(w2.setCell ⟨w5.heap.size+1,0,none⟩ (.slice (some ⟨gg,0,none⟩) (k+1) cc)).heap.size:=by rw[aBj];omega
      generalize w2.setCell ⟨w5.heap.size+1,0,none⟩ (.slice (some ⟨gg,0,none⟩) (k+1) cc)=W6 at *;clear HT HO HM HN ui HB HD t0 p1 om c1 HZ;have Ue:=hid (VM iF.out dP.out);have q0:=D1.out.c1;have q1:=D1.out.f1;obtain⟨zU,zM,rfl⟩:=ai D5.out.out;obtain⟨dK,dJ,rfl⟩:=ai D4.out;have b6:=(aAW W6.heap.size W6).alloc (aAU _) (.cells #[.slice dK 8 dJ] 22);go_wp2_with (at_builtin;go_must (refine aBw _ rfl (.tmp 85) (.tmp 87) 23 rfl (w5.heap.size+2) 22 i1 (.slice none 0 0) 1 24 Tryz.underlying23 iC fe eZ eY rfl (by decide) _ k ((List.range k).map V) rfl (D5.out.out.alloc _) ⟨W6.heap.size,0,none⟩ 1 1 [.slice dK 8 dJ] rfl rfl (dx W6 [.slice dK 8 dJ] _) (by intro y hy;simp at hy;rcases hy with rfl;rfl) (by decide) (by unfold maxLen;omega) (by omega) (by simp;omega) (W6.heap.size+1) (by simp) ?_));intro g8 c8 w8 hown hgrow hat ar0;have DK:W6.heap.size<=w8.heap.size:=by
       have:=hgrow.size;simp at this;omega
      have tQ:(Value.slice zU k zM).ownBlock≠some (w5.heap.size+1):=λe=>by have:=(D5.out.out.lt _ e).1;omega
      have T8:=xP (D1.out.below b6 D1.out.lt) hgrow tQ;have RJ:(aD (ll xs k)).length=8:=by rw[mD,xB]
      have rJ:=(bJ D4.out (show w5.heap.size+2<=W0.heap.size by omega)).alloc (.cells #[.slice dK 8 dJ] 22);rw[IZ (by omega)]at rJ;have N8:=oI (D5.out.keeps b6) (x:=.slice dK 8 dJ) (by rw[RJ];exact rJ) (by decide) hgrow hown;have ow:W6.alloc (.cells #[.slice dK 8 dJ] 22)=W6.alloc (.cells #[.slice dK 8 dJ] 22):=rfl;have BI:=D5.out.out.alloc (.cells #[.slice dK 8 dJ] 22);have O8:=(ae D2.out b6).kept hgrow (aC (ae D2.out b6) BI (by decide));have M8:=(ae D3.out b6).kept hgrow (aC (ae D3.out b6) BI (by decide));have r0:=T8.c1;have r1:=T8.f1;have E1:=hid (T8.set1 (.slice (some ⟨g8,0,none⟩) (k+1) c8));have E2:=hid (N8.set (show w5.heap.size+1<w5.heap.size+2 by omega) 1 (.slice (some ⟨g8,0,none⟩) (k+1) c8));have E3:=hid (ax O8 (show w5.heap.size+1<w5.heap.size+2 by omega) 1 (.slice (some ⟨g8,0,none⟩) (k+1) c8));have E4:=hid (bz M8 ⟨w5.heap.size+1,1,none⟩ (.slice (some ⟨g8,0,none⟩) (k+1) c8) Gu.out);have E5:Hid (∀ i,i<k+1->((λi=>if i=k then Value.slice dK 8 dJ else V i) i).ownBlock≠(Value.slice (some ⟨gM,0,none⟩) ms.length uG).ownBlock/\((λi=>if i=k then Value.slice dK 8 dJ else V i) i).ownBlock≠((.slice (some ⟨gg,0,none⟩) (k+1) cc):Value).ownBlock):=hid (λi hi=>by
       by_cases c:i=k
       ·simp only[c,if_true];refine⟨?_,D8.out⟩;rcases nJ.out with h | h
        ·obtain⟨g9,h9,_⟩:=dX D4.out (by omega);subst h9;simp[Value.ownBlock]at h
        ·exact h
       ·simp only[c,if_false];exact D7.out i (by omega))
      have E6:=hid (((D9.out.alloc D9.out.size (.cells #[.slice dK 8 dJ] 22)).grown hgrow (by have:=D9.out.size;simp;omega) (λq h=>by have:=(D5.out.out.lt q h).1;omega)).setCell (p:=⟨w5.heap.size+1,1,none⟩) (by show w5.heap.size<=w5.heap.size+1;omega) (.slice (some ⟨g8,0,none⟩) (k+1) c8));clear hown hgrow hat b6 ow BI O8 M8 N8 T8 rJ D1 D2 D3 D4 D5 D9 tQ;go_wp2_with fail;go_roundw
      case rel=>exact⟨k+1,ms,xs,os++[out m0],_,_,_,by go_num,by omega,by omega,HE,Ue,E4,Gu,E1,E3,D6,E2,E5,E6,by simp;omega⟩
      case measure=>simp[intOf];omega
  ·obtain rfl:k=ms.length:=by omega
   have iL:=hid (HWM.out ms xs HE.out zo);have TF:=hid (T5.out.below HB.out (by omega));have UH:=hid (iM.out.trans (HB.out.mono (by omega)));have d0:=TF.out.c0;have d1:=TF.out.c1;have e0:=TF.out.f0;have e1:=TF.out.f1;subst hvM;by_cases h8:ms.length<=8
   ·have k8:¬ ((8:Int)<(ms.length:Int)):=by omega
    obtain⟨a1,c1,rfl⟩:=ai HO.out;obtain⟨a2,c2,rfl⟩:=ai HN.out.out;have hw5:w.heap.size<w5.heap.size+2:=by omega
    have O1:=ax (ax HO.out hw5 0 (.slice a1 ms.length c1)) hw5 1 (.slice a2 ms.length c2);rw[Ka]at O1;have N1:=(HN.out.set hw5 0 (.slice a1 ms.length c1)).set hw5 1 (.slice a2 ms.length c2);obtain⟨a1',c1',e1',I1⟩:=rX O1;obtain⟨a2',c2',e2',L2⟩:=ZE N1;cases e1';cases e2';have g0:=HT.out.c0;have g1:=HT.out.c1;have hos:os=(List.range ms.length).map λi=>out (rG ms i):=by
     apply List.ext_getElem
     ·simp[iF.out.1]
     ·intro i h1 h2;have h3:=iF.out.2 i (by rw[<-iF.out.1];exact h1);simp[List.getD,aAV h1]at h3;simp[h3]
    have I1:=hid I1;have L2:=hid L2;have HOE:=hid hos;clear hos O1 N1;go_wp2_with fail;refine fM (cs:=[.slice a1 ms.length c1,.slice a2 ms.length c2]) (v:=.int .i64 (0:Nat)) (b:=w.heap.size) Tryz.results12 ?_ ?_ ?_ ?_ Tryz.underlying37 rfl Tryz.uA ?_
    ·rfl
    ·rfl
    ·rfl
    ·exact uo d0 d1 _ _
    ·refine⟨_,_,0,rfl,aA2 ⟨rfl,ms.length,_,_,iL.out,h8,⟨a1,c1,rfl,?_⟩,⟨a2,c2,rfl,?_⟩⟩,(UH.out.setCell (p:=⟨w.heap.size,0,none⟩) (aAU _) _).setCell (p:=⟨w.heap.size,1,none⟩) (aAU _) _⟩
     ·rw[<-HOE.out];exact I1.out
     ·exact L2.out
   ·have k8:(8:Int)<(ms.length:Int):=by omega
    have Lx:=hid (ae1 iL.out (by omega));go_wp2_with fail;refine fM (cs:=[.slice none 0 0,.slice none 0 0]) (v:=.int .i64 (7:Nat)) (b:=w.heap.size) Tryz.results12 ?_ ?_ ?_ ?_ Tryz.underlying37 rfl Tryz.uA ?_
    ·rfl
    ·rfl
    ·rfl
    ·exact uo d0 d1 _ _
    ·exact⟨_,_,7,rfl,λh0=>absurd rfl h0,λ_=>aA3 ⟨rfl,rfl,rfl,Lx.out⟩,(UH.out.setCell (p:=⟨w.heap.size,0,none⟩) (aAU _) _).setCell (p:=⟨w.heap.size,1,none⟩) (aAU _) _⟩
end
