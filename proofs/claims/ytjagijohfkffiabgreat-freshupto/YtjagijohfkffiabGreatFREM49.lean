import Derived.Test.YtjagijohfkffiabGreatFREM48
set_option maxHeartbeats 16000000
set_option maxRecDepth 100000
set_option linter.unusedSimpArgs false
namespace Go.Proofs.YtjagijohfkffiabGreat
open Go.RowKit
set_option linter.unusedVariables false
theorem Tu{zs:List Int}{ag:List (List Int)}{ss:List Int}{s:ByteArray}{w w':World}{e:Ending}(h:qQ zs ag ss s w e w'):∃ y a1 n1 c1 a2 n2 c2 er xs ys,e=.returned (.tuple #[.bool y,.slice a1 n1 c1,.slice a2 n2 c2,.int .i64 (er:Nat)])/\Below w.heap.size w w' /\
  w'.ownsRow w.heap.size 3 1 (.slice a1 n1 c1) n1 xs/\w'.ownsRow w.heap.size 3 1 (.slice a2 n2 c2) n2 ys/\(∀ k,(Value.slice a1 n1 c1).ownBlock=some k->(Value.slice a2 n2 c2).ownBlock≠some k)/\n1<=20000/\n2<=20000:=by
 obtain⟨y,v1,v2,er,rfl,hb,k1,k2,k3⟩:=h;have nil:v1=.slice none 0 0->v2=.slice none 0 0->∃ y' a1 n1 c1 a2 n2 c2 er' xs ys,Ending.returned (.tuple #[.bool y,v1,v2,.int .i64 (er:Nat)])=.returned (.tuple #[.bool y',.slice a1 n1 c1,.slice a2 n2 c2,.int .i64 (er':Nat)])/\Below w.heap.size w w' /\
   w'.ownsRow w.heap.size 3 1 (.slice a1 n1 c1) n1 xs/\w'.ownsRow w.heap.size 3 1 (.slice a2 n2 c2) n2 ys/\(∀ k,(Value.slice a1 n1 c1).ownBlock=some k->(Value.slice a2 n2 c2).ownBlock≠some k)/\n1<=20000/\n2<=20000:=by
  rintro rfl rfl;exact⟨y,none,0,0,none,0,0,er,[],[],rfl,hb,aBh _ _ _ _,aBh _ _ _ _,λk h=>by simp[Value.ownBlock]at h,by omega,by omega⟩
 by_cases hG:bM zs ag ss=true
 ·by_cases hp:(aB s).1=0
  ·obtain⟨_,RF⟩:=k3 hG hp;rcases RF with⟨_,e1,e2,_⟩ | ⟨_,SA,SB,B2,hS,oA,oB,hB2,hap⟩
   ·exact nil e1 e2
   ·obtain⟨a1,c1,e1⟩:=ai oA;obtain⟨a2,c2,e2⟩:=ai oB;subst e1;subst e2;have hl:=hS.len;exact⟨y,a1,_,c1,a2,_,c2,er,_,_,rfl,hb,oA,bJ oB hB2,λk hk e=>by have h1:=hap k hk;have h2:=(oB.lt k e).1;omega,by omega,by omega⟩
  ·obtain⟨_,_,e1,e2⟩:=k2 hG hp;exact nil e1 e2
 ·obtain⟨_,_,e1,e2⟩:=k1 (by cases e:bM zs ag ss with | false=>rfl | true=>exact absurd e hG)
  exact nil e1 e2
def Uc(w:World)(M q r:Nat)(e:Ending)(w':World):Prop:=e=.returned (.bool true)/\∃ fC nQ q' r' lV K7,Book w' M fC nQ q' r' lV K7/\q'<=q+300/\r'<=r+2/\(∀ k,fC.ownBlock=some k->M<=k)/\(∀ k,nQ.ownBlock=some k->M<=k)/\Below M w w'
section
variable (M q r:Nat) (vL vO:Value) (ES:List (Value × Nat)) (OS:List (Value × Nat × Nat)) (s1 s2:ByteArray) (g1 g2 g3:Option Addr) (k1 d1 k2 d2 k3 d3:Nat) (zs:List Int) (ag:List (List Int)) (ss:List Int) (w:World)
theorem Kb(hB:Book w M vL vO q r ES OS)(Fv:∀ k,vL.ownBlock=some k->M<=k)(DU:∀ k,vO.ownBlock=some k->M<=k)(EW:s1.size<=maxLen)(Od:s2.size<=1048576)(h1:Ints w g1 k1 d1 zs)(h2:Lists w g2 k2 d2 ag)(h3:Ints w g3 k3 d3 ss)(hq:q<=100000)(hr:r<=100000) :
  Calls Tryz.prog 7 #[.pointer (some ⟨M,0,none⟩),.string s1,.string s2,.agg #[.slice g1 k1 d1,.slice g2 k2 d2,.slice g3 k3 d3]] w (Uc w M q r):=by
 have ba:=(aAW w.heap.size w).alloc (aAU _) (.cells #[.slice g1 k1 d1,.slice g2 k2 d2,.slice g3 k3 d3] 25);have TG:=hid (dH w (.slice g1 k1 d1) (.slice g2 k2 d2) (.slice g3 k3 d3) 25);have BW:=hid ba;have ayw:=cZ hB.hM;have UF:=hid hB;have H1:=hid h1;have H2:=hid h2;have H3:=hid h3;have BQ:=hid Fv;have Uu:=hid DU;have aj7:s2.size<=maxLen:=by unfold maxLen;omega
 have C1:=hid (λW=>Ze s1 W EW);have C2:=hid (λW=>watches.XM s1 W EW);have C3:=hid (λW=>adu s2 W aj7);have C4:=hid (λW=>ZJ s2 W Od);have C5:=hid (λW (b:Below w.heap.size w W)=>YQ g1 g2 g3 k1 d1 k2 d2 k3 d3 zs ag ss s1 W EW (h1.below b) (h2.below b) (h3.below b));have C6:=hid (λW (b:Below w.heap.size w W)=>Pf g1 g2 g3 k1 d1 k2 d2 k3 d3 zs ag ss s1 W EW (h1.below b) (h2.below b) (h3.below b));clear hB h1 h2 h3 ba Fv DU EW Od aj7;go_enter Tryz.func7,Tryz.ntmps7;go_wp2_with fail;have hW1:w.heap.size<(w.alloc (.cells #[.slice g1 k1 d1,.slice g2 k2 d2,.slice g3 k3 d3] 25)).heap.size:=by simp
 generalize (w.alloc (.cells #[.slice g1 k1 d1,.slice g2 k2 d2,.slice g3 k3 d3] 25))=W1 at *;refine(C1.out W1).mono ?_;intro e w2 hd;obtain⟨a1,n,c1,a2,c2,V,os,ls,er,rfl,b,ml,hn8,I1,L1,sp⟩:=UT hd;have sH:=b.size;have Dl:=hid (Rf ml);have bx:=(aAW w2.heap.size w2).alloc (aAU _) (.cells #[.slice a1 n c1,.slice a2 n c2] 37);have bb:=b.trans (bx.mono sH);have BW:=hid (BW.out.trans (bb.mono BW.out.size));have TG:=hid (TG.out.below bb TG.out.lt);have yI:=hid (ml.keeps bx);have IA:=hid (I1.below bx);have LA:=hid (L1.below bx);have BA:=hid (heap_alloc_last w2 (.cells #[.slice a1 n c1,.slice a2 n c2] 37));have SPA:=hid sp;have hsA:(w2.alloc (.cells #[.slice a1 n c1,.slice a2 n c2] 37)).heap.size=w2.heap.size+1:=by simp
 clear hd C1 b ml I1 L1 sp bx bb;go_wp2_with fail;generalize (w2.alloc (.cells #[.slice a1 n c1,.slice a2 n c2] 37))=W3 at *;generalize hAA:w2.heap.size=A at *;clear hAA;refine(C2.out W3).mono ?_;intro e w4 hd;obtain⟨x1,m1,e1,x2,m2,e2,os',ls',er',rfl,b,I2,L2,sp⟩:=QM hd;obtain⟨rfl,rfl⟩:=Zw SPA.out sp;obtain rfl:n=m1:=by rw[<-IA.out.hlen,<-I2.hlen]
 obtain rfl:n=m2:=by rw[<-LA.out.hlen,<-L2.hlen]
 have hsB:=b.size;have bx:=(aAW w4.heap.size w4).alloc (aAU _) (.cells #[.slice x1 n e1,.slice x2 n e2] 37);have bb:=b.trans (bx.mono hsB);have BW:=hid (BW.out.trans (bb.mono BW.out.size));have TG:=hid (TG.out.below bb TG.out.lt);have yI:=hid (yI.out.keeps bb);have IA:=hid (IA.out.below bb);have LA:=hid (LA.out.below bb);have BA:=hid ((bb.block A (cZ BA.out)).trans BA.out);have IB:=hid (I2.below bx);have LB:=hid (L2.below bx);have BB:=hid (heap_alloc_last w4 (.cells #[.slice x1 n e1,.slice x2 n e2] 37));have axW:(w4.alloc (.cells #[.slice x1 n e1,.slice x2 n e2] 37)).heap.size=w4.heap.size+1:=by simp
 clear hd C2 b I2 L2 sp bx bb SPA;go_wp2_with fail;generalize (w4.alloc (.cells #[.slice x1 n e1,.slice x2 n e2] 37))=W5 at *;generalize hB4:w4.heap.size=Bq at *;clear hB4;refine(C3.out W5).mono ?_;intro e w6 hd;obtain⟨y1,nc,f1,y2,f2,Vc,osc,lsc,rfl,b,ml,hnc,I1,L1,eo,el⟩:=ZT hd;have hsC:=b.size;have JE:=hid (Rf ml);have bx:=(aAW w6.heap.size w6).alloc (aAU _) (.cells #[.slice y1 nc f1,.slice y2 nc f2] 37);have bb:=b.trans (bx.mono hsC);have BW:=hid (BW.out.trans (bb.mono BW.out.size));have TG:=hid (TG.out.below bb TG.out.lt);have yI:=hid (yI.out.keeps bb);have IA:=hid (IA.out.below bb);have LA:=hid (LA.out.below bb);have IB:=hid (IB.out.below bb);have LB:=hid (LB.out.below bb);have BA:=hid ((bb.block A (cZ BA.out)).trans BA.out);have BB:=hid ((bb.block Bq (cZ BB.out)).trans BB.out);have BJ:=hid (ml.keeps bx);have IC:=hid (I1.below bx);have LC:=hid (L1.below bx);have BC:=hid (heap_alloc_last w6 (.cells #[.slice y1 nc f1,.slice y2 nc f2] 37));have EO:=hid eo;have EL:=hid el;have axV:(w6.alloc (.cells #[.slice y1 nc f1,.slice y2 nc f2] 37)).heap.size=w6.heap.size+1:=by simp
 clear hd C3 b ml I1 L1 eo el bx bb;go_wp2_with fail;generalize (w6.alloc (.cells #[.slice y1 nc f1,.slice y2 nc f2] 37))=W7 at *;generalize hC6:w6.heap.size=Cq at *;clear hC6;generalize hre:iH s2=re at *;clear hre;refine(C4.out W7).mono ?_;intro e w8 hd;obtain⟨z1,l1,j1,z2,l2,j2,osd,lsd,rfl,b,I2,L2,-,-,eo,el⟩:=reads.XT hd;obtain rfl:osc=osd:=by rw[EO.out,eo]
 obtain rfl:lsc=lsd:=by rw[EL.out,el]
 obtain rfl:nc=l1:=by rw[<-IC.out.hlen,<-I2.hlen]
 obtain rfl:nc=l2:=by rw[<-LC.out.hlen,<-L2.hlen]
 have hsD:=b.size;have bx:=(aAW w8.heap.size w8).alloc (aAU _) (.cells #[.slice z1 nc j1,.slice z2 nc j2] 37);have bb:=b.trans (bx.mono hsD);have BW:=hid (BW.out.trans (bb.mono BW.out.size));have TG:=hid (TG.out.below bb TG.out.lt);have yI:=hid (yI.out.keeps bb);have IA:=hid (IA.out.below bb);have LA:=hid (LA.out.below bb);have IB:=hid (IB.out.below bb);have LB:=hid (LB.out.below bb);have BA:=hid ((bb.block A (cZ BA.out)).trans BA.out);have BB:=hid ((bb.block Bq (cZ BB.out)).trans BB.out);have BJ:=hid (BJ.out.keeps bb);have IC:=hid (IC.out.below bb);have LC:=hid (LC.out.below bb);have BC:=hid ((bb.block Cq (cZ BC.out)).trans BC.out);have ID:=hid (I2.below bx);have LD:=hid (L2.below bx);have BD:=hid (heap_alloc_last w8 (.cells #[.slice z1 nc j1,.slice z2 nc j2] 37));have axU:(w8.alloc (.cells #[.slice z1 nc j1,.slice z2 nc j2] 37)).heap.size=w8.heap.size+1:=by simp
 have u0:(w8.alloc (.cells #[.slice z1 nc j1,.slice z2 nc j2] 37)).cell? ⟨A,0,none⟩=some (.slice a1 n c1):=by rw[aBJ _ A 0 _ _ _ BA.out];rfl
 have u1:(w8.alloc (.cells #[.slice z1 nc j1,.slice z2 nc j2] 37)).cell? ⟨A,1,none⟩=some (.slice a2 n c2):=by rw[aBJ _ A 1 _ _ _ BA.out];rfl
 have u2:(w8.alloc (.cells #[.slice z1 nc j1,.slice z2 nc j2] 37)).cell? ⟨Bq,0,none⟩=some (.slice x1 n e1):=by rw[aBJ _ Bq 0 _ _ _ BB.out];rfl
 have u3:(w8.alloc (.cells #[.slice z1 nc j1,.slice z2 nc j2] 37)).cell? ⟨Bq,1,none⟩=some (.slice x2 n e2):=by rw[aBJ _ Bq 1 _ _ _ BB.out];rfl
 have S1:=hid (yV a1 a2 x1 x2 n c1 n c2 e1 e2 _ _ _ IA.out LA.out IB.out LB.out);clear hd C4 b I2 L2 eo el bx bb EO EL;go_wp2_with fail;generalize (w8.alloc (.cells #[.slice z1 nc j1,.slice z2 nc j2] 37))=W9 at *;generalize hD8:w8.heap.size=Dq at *;clear hD8;refine S1.out.mono ?_;rintro e xN ⟨rfl,bb⟩;have BW:=hid (BW.out.trans (bb.mono BW.out.size));have TG:=hid (TG.out.below bb TG.out.lt);have yI:=hid (yI.out.keeps bb);have BA:=hid ((bb.block A (cZ BA.out)).trans BA.out);have BJ:=hid (BJ.out.keeps bb);have BC:=hid ((bb.block Cq (cZ BC.out)).trans BC.out);have BD:=hid ((bb.block Dq (cZ BD.out)).trans BD.out);have S2:=hid (yV y1 y2 z1 z2 nc f1 nc f2 j1 j2 _ _ _ (IC.out.below bb) (LC.out.below bb) (ID.out.below bb) (LD.out.below bb));have arN:=bb.size;clear u0 u1 u2 u3 S1 IA LA IB LB IC LC ID LD BB bb;have u0:xN.cell? ⟨Cq,0,none⟩=some (.slice y1 nc f1):=by rw[aBJ _ Cq 0 _ _ _ BC.out];rfl
 have u1:xN.cell? ⟨Cq,1,none⟩=some (.slice y2 nc f2):=by rw[aBJ _ Cq 1 _ _ _ BC.out];rfl
 have u2:xN.cell? ⟨Dq,0,none⟩=some (.slice z1 nc j1):=by rw[aBJ _ Dq 0 _ _ _ BD.out];rfl
 have u3:xN.cell? ⟨Dq,1,none⟩=some (.slice z2 nc j2):=by rw[aBJ _ Dq 1 _ _ _ BD.out];rfl
 go_wp2_with fail;refine S2.out.mono ?_;rintro e Na ⟨rfl,bb⟩;have BW:=hid (BW.out.trans (bb.mono BW.out.size));have TG:=hid (TG.out.below bb TG.out.lt);have yI:=hid (yI.out.keeps bb);have BA:=hid ((bb.block A (cZ BA.out)).trans BA.out);have BJ:=hid (BJ.out.keeps bb);have BC:=hid ((bb.block Cq (cZ BC.out)).trans BC.out);have arM:=bb.size;clear u0 u1 u2 u3 S2 BD bb;have u0:=TG.out.c0;have u1:=TG.out.c1;have u2:=TG.out.c2;go_wp2_with fail;refine(C5.out _ BW.out).mono ?_;rintro e Zi ⟨rfl,bb⟩;have BW:=hid (BW.out.trans (bb.mono BW.out.size));have TG:=hid (TG.out.below bb TG.out.lt);have yI:=hid (yI.out.keeps bb);have BA:=hid ((bb.block A (cZ BA.out)).trans BA.out);have BJ:=hid (BJ.out.keeps bb);have BC:=hid ((bb.block Cq (cZ BC.out)).trans BC.out);have ax0:=bb.size;clear u0 u1 u2 C5 bb;have u0:=TG.out.c0;have u1:=TG.out.c1;have u2:=TG.out.c2;go_wp2_with fail;refine(C6.out _ BW.out).mono ?_;intro e M6 hd;obtain⟨yb,p1,t1,o1,p2,t2,o2,erk,xs,ys,rfl,bb,oA,oB,mR,ht1,ht2⟩:=Tu hd;have BW:=hid (BW.out.trans (bb.mono BW.out.size));have yI:=hid (yI.out.keeps bb);have BA:=hid ((bb.block A (cZ BA.out)).trans BA.out);have BJ:=hid (BJ.out.keeps bb);have BC:=hid ((bb.block Cq (cZ BC.out)).trans BC.out);have arL:=bb.size;have OA:=hid oA;have OB:=hid oB;have alT:=hid mR;clear u0 u1 u2 hd C6 bb oA oB mR TG;have UK:=hid (UF.out.below BW.out);have wh:=hid (BW.out.mono (show M<=w.heap.size by omega));have MC:=hid (EE M q r n n c1 c2 a1 a2 vL vO V (λ_=>8) ES OS M6 UK.out (Q4 yI.out Dl.out (rF UF.out (by omega)) (by omega)) (by omega) (by omega));have u0:M6.cell? ⟨A,0,none⟩=some (.slice a1 n c1):=by rw[aBJ _ A 0 _ _ _ BA.out];rfl
 have u1:M6.cell? ⟨A,1,none⟩=some (.slice a2 n c2):=by rw[aBJ _ A 1 _ _ _ BA.out];rfl
 go_wp2_with fail;refine MC.out.mono ?_;intro e Qr hd;obtain⟨rfl,vLa,vOa,ESa,OSa,bka,usa,lba,oba,Tv⟩:=hd;have arK:=Tv.size;have AWc:=hid (wE Dl.out (rF UF.out (lo:=W5.heap.size) (hi:=Cq) (by omega)) (by omega) (aA2 (by omega)) usa lba oba);have AWs:=hid (wE Dl.out (rF UF.out (lo:=Zi.heap.size) (hi:=M6.heap.size) (by omega)) (aAU _) (aA2 (by omega)) usa lba oba);have BJ:=hid (aaa BJ.out JE.out Tv (GU Dl.out (rF UF.out (by omega)) (by omega) (aA2 (by omega))));have hout:=GU (lo:=Zi.heap.size) (hi:=M6.heap.size) Dl.out (rF UF.out (by omega)) (show M<Zi.heap.size by omega) (aA2 (by omega));have OA1:=hid (uz OA.out Tv (λg hg=>hout g (OA.out.lt g hg).1 (OA.out.lt g hg).2));have OB1:=hid (uz OB.out Tv (λg hg=>hout g (OB.out.lt g hg).1 (OB.out.lt g hg).2));have BC:=hid ((Tv.block Cq (by omega) (GU (lo:=Cq) (hi:=Cq+1) Dl.out (rF UF.out (by omega)) (by omega) (aA2 (by omega)) Cq (aAU _) (aBs _))).trans BC.out);have wh:=hid (zR wh.out Tv (by omega) (λg hg=>by
  rcases hg with h | h | h | h | h | ⟨i,hi,h⟩
  ·omega
  ·exact BQ.out g h
  ·exact Uu.out g h
  ·have:=Dl.out _ (aA2 rfl) g h;omega
  ·have:=Dl.out _ (aA3 (aA2 rfl)) g h;omega
  ·have:=Dl.out _ (aA3 (aA3 ⟨i,hi,rfl⟩)) g h;omega))
 have BQ:=hid (λk (hk:vLa.ownBlock=some k)=>(by
  rcases lba with h | ⟨g',h,h2⟩
  ·exact BQ.out k (h.symm.trans hk)
  ·rw[hk]at h;have:=Option.some.inj h;omega:M<=k))
 have Uu:=hid (λk (hk:vOa.ownBlock=some k)=>(by
  rcases oba with h | ⟨g',h,h2⟩
  ·exact Uu.out k (h.symm.trans hk)
  ·rw[hk]at h;have:=Option.some.inj h;omega:M<=k))
 have HBa:=hid bka;have MC2:=hid (EE M (q+1+n) (r+1) nc nc f1 f2 y1 y2 vLa vOa Vc (λ_=>8) ESa OSa Qr bka (Q4 BJ.out JE.out AWc.out (by omega)) (by omega) (by omega));clear u0 u1 MC hout usa lba oba Tv bka;have u0:Qr.cell? ⟨Cq,0,none⟩=some (.slice y1 nc f1):=by rw[aBJ _ Cq 0 _ _ _ BC.out];rfl
 have u1:Qr.cell? ⟨Cq,1,none⟩=some (.slice y2 nc f2):=by rw[aBJ _ Cq 1 _ _ _ BC.out];rfl
 go_wp2_with fail;refine MC2.out.mono ?_;intro e w15 hd;obtain⟨rfl,vLc,Zj,ESc,OSc,bkc,usc,lbc,obc,chc⟩:=hd;have axZ:=chc.size;have am3:=hid (wE JE.out AWs.out (by omega) (aA2 (by omega)) usc lbc obc);have hout:=GU (lo:=Zi.heap.size) (hi:=M6.heap.size) JE.out AWs.out (show M<Zi.heap.size by omega) (aA2 (by omega));have OA2:=hid (uz OA1.out chc (λg hg=>hout g (OA.out.lt g hg).1 (OA.out.lt g hg).2));have OB2:=hid (uz OB1.out chc (λg hg=>hout g (OB.out.lt g hg).1 (OB.out.lt g hg).2));have wh:=hid (zR wh.out chc (by omega) (λg hg=>by
  rcases hg with h | h | h | h | h | ⟨i,hi,h⟩
  ·omega
  ·exact BQ.out g h
  ·exact Uu.out g h
  ·have:=JE.out _ (aA2 rfl) g h;omega
  ·have:=JE.out _ (aA3 (aA2 rfl)) g h;omega
  ·have:=JE.out _ (aA3 (aA3 ⟨i,hi,rfl⟩)) g h;omega))
 have BQ:=hid (λk (hk:vLc.ownBlock=some k)=>(by
  rcases lbc with h | ⟨g',h,h2⟩
  ·exact BQ.out k (h.symm.trans hk)
  ·rw[hk]at h;have:=Option.some.inj h;omega:M<=k))
 have Uu:=hid (λk (hk:Zj.ownBlock=some k)=>(by
  rcases obc with h | ⟨g',h,h2⟩
  ·exact Uu.out k (h.symm.trans hk)
  ·rw[hk]at h;have:=Option.some.inj h;omega:M<=k))
 have HBc:=hid bkc;have aep:=bJ OA2.out (aA8 _);have ML1:=hid (zk M t1 (4*(q+1+n+1+nc)) (q+1+n+1+nc) o1 p1 vLc Zj xs _ w15 bkc.hM bkc.hL aep (by omega) rfl (by omega));clear u0 u1 MC2 hout usc lbc obc chc bkc;go_wp2_with fail;refine ML1.out.mono ?_;intro e w16 hd;obtain⟨rfl,vLs,b1,b2,b3,bks,uss,lbs,kbs⟩:=zP HBc.out aep (λg hg hu=>by
  have h1:=OA.out.lt g hg;rcases am3.out.us g hu with h2 | h2 <;> omega) hd
 have axY:=kbs.size;have YH:=bJ OB2.out (aA8 _);have aeo:=dI YH kbs (bE YH HBc.out.hM (by decide)) (by
  cases hb:(Value.slice p2 t2 o2).ownBlock with
  | none=>exact aA2 rfl
  | some g=>exact aA3 λe=>alT.out g e.symm hb) (aC YH HBc.out.hL (by decide))
 have wh:=hid (zR wh.out (abL kbs) (by omega) (λg hg=>by
  rcases hg with h | h | h
  ·omega
  ·have:=(OA.out.lt g h).1;omega
  ·exact BQ.out g h))
 have BQ:=hid (λk (hk:vLs.ownBlock=some k)=>(by
  rcases lbs with h | ⟨g',h,h2⟩
  ·exact BQ.out k (h.symm.trans hk)
  ·rw[hk]at h;have:=Option.some.inj h;omega:M<=k))
 have HBs:=hid bks;have ML2:=hid (zk M t2 (4*(q+1+n+1+nc+1)) (q+1+n+1+nc+1) o2 p2 vLs Zj ys _ w16 bks.hM bks.hL aeo (by omega) rfl (by omega));clear ML1 hd bks lbs kbs;go_wp2_with fail;refine ML2.out.mono ?_;intro e w17 hd;obtain⟨rfl,vLl,b4,b5,b6,bkl,usl,lbl,kbl⟩:=zP HBs.out aeo (λg hg hu=>by
  have h1:=OB.out.lt g hg;rcases uss g hu with h2 | h2 | h2
  ·rcases am3.out.us g h2 with h3 | h3 <;> omega
  ·exact alT.out g h2 hg
  ·omega) hd
 have axX:=kbl.size;have wh:=hid (zR wh.out (abL kbl) (by omega) (λg hg=>by
  rcases hg with h | h | h
  ·omega
  ·have:=(OB.out.lt g h).1;omega
  ·exact BQ.out g h))
 have BQ:=hid (λk (hk:vLl.ownBlock=some k)=>(by
  rcases lbl with h | ⟨g',h,h2⟩
  ·exact BQ.out k (h.symm.trans hk)
  ·rw[hk]at h;have:=Option.some.inj h;omega:M<=k))
 have MS:=hid (Yd M _ _ vLl Zj _ _ w17 bkl (by omega) (by omega));have Gx:Hid (Uc w M q r (.returned (.bool true)) w17):=hid ⟨rfl,vLl,Zj,_,_,_,_,bkl,by omega,by omega,BQ.out,Uu.out,wh.out⟩;clear ML2 hd bkl lbl kbl uss usl aep YH aeo;go_wp2_with fail;refine MS.out.mono ?_;rintro e w18 ⟨rfl,rfl⟩;go_wp2_with fail;go_ret;exact Gx.out
end
theorem NC{w:World}{B:Nat}{e:TypeId}{g n:Nat}{xs:List Value}(h:w.ownsRow B e 1 (.slice (some ⟨g,0,none⟩) n n) n xs):w.heap[g]?=some (.cells xs.toArray e (0,0)):=by
 rcases h.2 with⟨e1,_⟩ | ⟨g',cap,cur,e1,hb,hh,hc,hm,hs,ht⟩
 ·simp at e1
 ·cases e1;rw[hh];congr 2;rw[<-ht,List.take_of_length_le (by rw[Array.length_toList,hs];exact aAU _)]
theorem iO{w:World}{g o:Nat}{cs:Array Value}{t:TypeId}(h:w.heap[g]?=some (.cells cs t (0,0))):w.cell? ⟨g,o,none⟩=cs[o]?:=aBJ w g o cs t (0,0) h
theorem o7{w:World}{g o:Nat}{cs:Array Value}{t:TypeId}(h:w.heap[g]?=some (.cells cs t (0,0))):w.frozen? ⟨g,o,none⟩=false:=by
 simp[World.frozen?,h]
structure iD (w:World) (g l:Nat) (zs:List Int):Prop where
 hlen:zs.length=l
 blk:w.heap[g]?=some (.cells (zs.map (Value.int .i64)++[Value.int .i64 77,Value.int .i64 77]).toArray 3 (0,0))
theorem iD.lt{w:World}{g l:Nat}{zs:List Int}(h:iD w g l zs):g<w.heap.size:=(aBm.1 h.blk).1
theorem iD.c{w:World}{g l:Nat}{zs:List Int}(h:iD w g l zs)(i:Nat)(hi:i<l):w.cell? ⟨g,i,none⟩=some (.int .i64 (zs.getD i 0)):=by
 have hl:=h.hlen;rw[iO h.blk,List.getElem?_toArray,aA9 (by simp;omega)];simp[List.getD,aAV (show i<zs.length by omega)]
theorem iD.m0{w:World}{g l:Nat}{zs:List Int}(h:iD w g l zs):w.cell? ⟨g,l,none⟩=some (.int .i64 77):=by
 have hl:=h.hlen;rw[iO h.blk,List.getElem?_toArray,aBa (by simp;omega)];simp[hl]
theorem iD.m1{w:World}{g l:Nat}{zs:List Int}(h:iD w g l zs):w.cell? ⟨g,l+1,none⟩=some (.int .i64 77):=by
 have hl:=h.hlen;rw[iO h.blk,List.getElem?_toArray,aBa (by simp;omega)];simp[hl]
theorem iD.fz{w:World}{g l:Nat}{zs:List Int}(h:iD w g l zs)(o:Nat):w.frozen? ⟨g,o,none⟩=false:=o7 h.blk
theorem iD.same{w w':World}{g l:Nat}{zs:List Int}(h:iD w g l zs)(hb:w'.heap[g]?=w.heap[g]?):iD w' g l zs:=⟨h.hlen,hb.trans h.blk⟩
theorem iD.below{w w':World}{g l:Nat}{zs:List Int}(h:iD w g l zs)(hb:Below w.heap.size w w'):iD w' g l zs:=h.same (hb.block g h.lt)
theorem iD.ints{w:World}{g l:Nat}{zs:List Int}(h:iD w g l zs)(hm:l<=2097152):Ints w (some ⟨g,0,none⟩) l (l+2) zs:=
 ⟨h.hlen,by omega,by omega,λe=>by simp at e,λ_=>⟨g,0,rfl,h.lt,λi hi=>by rw[aBo];exact h.c i hi⟩⟩
theorem kw{w:World}{g o:Nat}{cs:Array Value}{t:TypeId}(h:w.heap[g]?=some (.cells cs t (0,0)))(v:Value):(w.setCell ⟨g,o,none⟩ v).heap[g]?=some (.cells (cs.setIfInBounds o v) t (0,0)):=by
 simp[World.setCell,Array.getElem?_modify,h]
theorem yh(a:Option Addr)(l c:Nat)(zs:List Int)(w:World)(h:Ints w a l c zs)(RP:l<=1048576) :
  Calls Tryz.prog 5 #[.slice a l c] w λe w'=>e=.returned (.slice (some ⟨w.heap.size,0,none⟩) l (l+2))/\iD w' w.heap.size l zs/\Below w.heap.size w w':=by
 have L:=h.hlen;have hc:=h.hcap;have hm:=h.hmax;have HI:=hid h;have N:=h.hnil;obtain⟨i0,hi,aR,aP,aN⟩:=info_parts Tryz.uB;have hsz:(Tryz.prog.info? 3).map (·.size)=some 1:=by rw[hi];simp[aP]
 have wl:Hid ((l:Int)+2=((l+2:Nat):Int)):=hid (by omega);clear h;go_enter Tryz.func5,Tryz.ntmps5;go_wp2_with (at_make;go_must (refine aBA _ rfl (.tmp 8) (.tmp 8) 22 rfl w.heap.size 3 i0 (.int .i64 0) 1 Tryz.underlying22 hi aR aP .i64 .i64 _ _ (l+2) rfl rfl ?m0 ?m1 ?m2 ?m3 (aAU _) ?_))
 case m0=>first | exact wl.out | simp | omega
 case m1=>first | exact wl.out | simp | omega
 case m2=>rw[aN];omega
 case m3=>unfold maxLen;omega
 intro w1 aF aZ;have b1:Below w.heap.size w w1:=(aAW _ _).grown aZ (aAU _) (λk h=>by cases h);have aM:=NC aF;have hlz:(madeCells #[Value.int .i64 0] (l+2)).toList.length=l+2:=by have:=aF.1;omega
 have I1:=HI.out.below b1;have s1:=I1.src;generalize (madeCells #[Value.int .i64 0] (l+2)).toList=Z at *;have HZ:=hid hlz;have aK:=hid b1;have HS1:=hid aM;clear aF aZ b1 aM hlz;go_wp2_with (refine wpList_copy_splice rfl (.tmp 10) (.tmp 11) 22 22 rfl 3 Tryz.underlying22 hsz (some ⟨w.heap.size,0,none⟩) a (l+2) (l+2) l c rfl rfl w.heap.size 0 Z 3 HS1.out (zs.map (Value.int .i64)) ?k1 ?k2 ?k3 (xG zs) w.heap.size w aK.out (aAU _) ?_)
 case k1=>rw[aBG,L];exact(Nat.min_eq_left (by omega)).symm
 case k2=>
  intro hp
  try rw[aBG,L]at hp
  cases a with
  | none=>have:=(N rfl).1;omega
  | some ad=>exact⟨ad,rfl,λj z hz=>s1 ad rfl j (.int .i64 z) (by rw[aBk,hz];rfl)⟩
 case k3=>rw[aBG,L,HZ.out];omega
 intro w2 oV b2;have hcells:Hid (w2.heap[w.heap.size]?=some (.cells ((zs.map (Value.int .i64))++Z.drop l).toArray 3 (0,0))):=hid (by
  have h9:=oV.out;unfold splice at h9;simp only[List.take_zero,List.nil_append,aBo,aBG,L]at h9;exact h9)
 have HDL:Hid ((Z.drop l).length=2):=hid (by rw[List.length_drop,HZ.out];omega);have F2:=hid (λo=>o7 (o:=o) hcells.out);have C2:=hid (λo=>iO (o:=o) hcells.out);have gu:w.heap.size<w2.heap.size:=(aBm.1 hcells.out).1;have aW:=hid b2;obtain⟨u0,DI⟩:∃ u,w2.cell? ⟨w.heap.size,l,none⟩=some u:=⟨_,by
  rw[C2.out l];exact Array.getElem?_eq_getElem (by simp[L,HDL.out] <;> (have:=HZ.out;omega))⟩
 obtain⟨u1,Hu⟩:∃ u,w2.cell? ⟨w.heap.size,l+1,none⟩=some u:=⟨_,by
  rw[C2.out (l+1)];exact Array.getElem?_eq_getElem (by simp[L,HDL.out] <;> (have:=HZ.out;omega))⟩
 have f0:=F2.out l;have f1:=F2.out (l+1);have d0:(0:Int)<=(l:Int):=by omega
 have d1:(l:Int)<(l:Int)+2:=by omega
 have d2:(l:Int)+1<(l:Int)+2:=by omega
 have d3:(0:Int)<=(l:Int)+1:=by omega
 have axS:(w2.setCell ⟨w.heap.size,l,none⟩ (.int .i64 77)).cell? ⟨w.heap.size,l+1,none⟩=some u1:=by
  rw[aA0 _ _ _ _ (by simp)];exact Hu
 have SP:Hid (iD ((w2.setCell ⟨w.heap.size,l,none⟩ (.int .i64 77)).setCell ⟨w.heap.size,l+1,none⟩ (.int .i64 77)) w.heap.size l zs):=hid ⟨L,by
  obtain⟨x,y,hxy⟩:∃ x y,Z.drop l=[x,y]:=by
   have h2:=HDL.out
   match hd:Z.drop l,h2 with
   | [x,y],_=>exact⟨x,y,rfl⟩
  have h9:=hcells.out;rw[hxy]at h9;rw[kw (kw h9 _) _];congr 2;have e1:(zs.map (Value.int .i64)++[x,y]).set l (.int .i64 77)=zs.map (Value.int .i64)++[Value.int .i64 77,y]:=by
   rw[List.set_append_right _ _ (by simp;omega)];simp[L]
  have e2:(zs.map (Value.int .i64)++[Value.int .i64 77,y]).set (l+1) (.int .i64 77)=zs.map (Value.int .i64)++[Value.int .i64 77,Value.int .i64 77]:=by
   rw[List.set_append_right _ _ (by simp;omega)];simp[L]
  simp only[aAT];rw[e1,e2]⟩
 have cu:=hid ((aW.out.setCell (p:=⟨w.heap.size,l,none⟩) (aAU _) (.int .i64 77)).setCell (p:=⟨w.heap.size,l+1,none⟩) (aAU _) (.int .i64 77));clear oV b2 s1 I1;go_wp2_with fail;go_ret;exact⟨rfl,SP.out,cu.out⟩
theorem qH(g:Nat)(a:Option Addr)(l c:Nat)(zs:List Int)(w:World)(hS:iD w g l zs)(h:Ints w a l c zs)(RP:l<=1048576) :
  Calls Tryz.prog 8 #[.slice (some ⟨g,0,none⟩) l (l+2),.slice a l c] w λe w'=>e=.returned (.bool true)/\Below w.heap.size w w':=by
 have S:=hid (xV (some ⟨g,0,none⟩) a l (l+2) c zs w (hS.ints (by omega)) h);have hc:=h.hcap;have hm:=h.hmax;have dP:=hid hS.m0;have BR:=hid hS.m1;have hlt:=hS.lt;clear h hS;go_enter Tryz.func8,Tryz.ntmps8;go_wp2_with fail;refine S.out.mono ?_;rintro e w1 ⟨rfl,nq,rfl⟩;have b1:=aBd (aAW w.heap.size w) nq;generalize w.drewN nq=w1 at *;have m0:=(b1.cell (p:=⟨g,l,none⟩) hlt).trans dP.out;have m1:=(b1.cell (p:=⟨g,l+1,none⟩) hlt).trans BR.out;have aK:=hid b1;have d0:(0:Int)<=(l:Int):=by omega
 have d1:(l:Int)<(l:Int)+2:=by omega
 have d2:(l:Int)+1<(l:Int)+2:=by omega
 have d3:(0:Int)<=(l:Int)+1:=by omega
 have d4:(0:Int)<=(l:Int)+2:=by omega
 clear b1 S;go_wp2_with fail;go_ret;exact⟨rfl,aK.out⟩
