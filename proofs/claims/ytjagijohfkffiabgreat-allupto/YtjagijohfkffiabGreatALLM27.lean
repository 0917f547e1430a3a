import Derived.Test.YtjagijohfkffiabGreatALLM26
set_option maxHeartbeats 16000000
set_option maxRecDepth 100000
set_option linter.unusedSimpArgs false
namespace Go.Proofs.YtjagijohfkffiabGreat
open Go.RowKit
set_option linter.unusedVariables false
def MF(ns:List Nd)(vs:List Nat)(lt:Nat->Nat)(ed:Nat->Nat->Bool)(k i y pr j:Nat):List Nat:=pE ns vs lt ed k i y++((toS ns vs i).take j).map (λq=>pr+q)
theorem agC{ss:List Int}{n:Nat}(hn:gm n ss=true){P:Nat->Prop}:(∃ k,k<n/\wB ss k=true/\P k)↔∃ j,j<ss.length/\P ((ss.getD j 0).toNat):=by
 constructor
 ·rintro ⟨k,g,d,b⟩;obtain⟨j,a,e⟩:=aCK (zm.1 d);refine⟨j,a,?_⟩;rw[List.getD,aB3 a,e];exact b
 ·rintro ⟨j,a,b⟩;have c:ss.getD j 0∈ss:=by rw[List.getD,aB3 a];exact List.getElem_mem _
  obtain⟨f,h⟩:=qL.1 hn _ c;refine⟨(ss.getD j 0).toNat,by omega,?_,b⟩;refine zm.2 ?_;rw[Int.toNat_of_nonneg f];exact c
theorem Ja{u:List Int}(hu:dh u=true){j:Nat}(hj:j<u.length):qO (u.getD j 0)=true:=by
 unfold dh at hu;rw[List.all_eq_true]at hu;refine hu _ ?_;rw[List.getD,aB3 hj];exact List.getElem_mem _
def tZ(zs:List Int)(aj:List (List Int))(ss:List Int)(s:ByteArray)(w:World)(e:Ending)(w':World):Prop:=
 ∃ (y:Bool) (er:Nat),e=.returned (.tuple #[.bool y,.int .i64 (er:Nat)])/\Below w.heap.size w w' /\
  (bO zs aj ss=false->er=10/\y=false) /\
  (bO zs aj ss=true->(af s).1≠0->er=(af s).1/\y=false) /\
  (bO zs aj ss=true->(af s).1=0->er=0/\(y=true↔rP (af s).2 zs.length (dJ zs) (eT aj) (wB ss)))
theorem afh{zs:List Int}{aj:List (List Int)}{ss:List Int}{s:ByteArray}{w w':World}(hg:bO zs aj ss=false)(hb:Below w.heap.size w w'):tZ zs aj ss s w (.returned (.tuple #[.bool false,.int .i64 10])) w':=
 ⟨false,10,rfl,hb,λ_=>⟨rfl,rfl⟩,λh=>absurd (hg.symm.trans h) (by simp),λh=>absurd (hg.symm.trans h) (by simp)⟩
theorem afi{zs:List Int}{aj:List (List Int)}{ss:List Int}{s:ByteArray}{w w':World}(hg:bO zs aj ss=true)(hp:(af s).1≠0)(hb:Below w.heap.size w w'):tZ zs aj ss s w (.returned (.tuple #[.bool false,.int .i64 ((af s).1:Nat)])) w':=
 ⟨false,_,rfl,hb,λh=>absurd (hg.symm.trans h) (by simp),λ_ _=>⟨rfl,rfl⟩,λ_ h=>absurd h hp⟩
theorem ajp{zs:List Int}{aj:List (List Int)}{ss:List Int}{s:ByteArray}{w w':World}(hg:bO zs aj ss=true)(hp:(af s).1=0)(hb:Below w.heap.size w w')(y:Bool)(hy:y=true↔rP (af s).2 zs.length (dJ zs) (eT aj) (wB ss)):tZ zs aj ss s w (.returned (.tuple #[.bool y,.int .i64 0])) w':=
 ⟨y,0,rfl,hb,λh=>absurd (hg.symm.trans h) (by simp),λ_ h=>absurd hp h,λ_ _=>⟨rfl,hy⟩⟩
section
variable (a1 a2 a3:Option Addr) (l1 c1 l2 c2 l3 c3:Nat) (zs:List Int) (aj:List (List Int)) (ss:List Int) (s:ByteArray) (w:World)
theorem abz(hm:s.size<=maxLen)(h1:Ints w a1 l1 c1 zs)(h2:Lists w a2 l2 c2 aj)(h3:Ints w a3 l3 c3 ss)(hc:bO zs aj ss=false\/(af s).1≠0) :
  Calls Tryz.prog 42 #[.agg #[.slice a1 l1 c1,.slice a2 l2 c2,.slice a3 l3 c3],.string s] w (tZ zs aj ss s w):=by
 have a:=(aB4 w.heap.size w).alloc (aB2 _) (.cells #[.slice a1 l1 c1,.slice a2 l2 c2,.slice a3 l3 c3] 25);have i:=hid (BU a1 a2 a3 l1 c1 l2 c2 l3 c3 zs aj ss _ (h1.below a) (h2.below a) (h3.below a));have j:=hid a;have C:=hid (λW=>fe s W hm);unfold dF at C;have m:=hid hc;have c:=hid (λw'=>@afh zs aj ss s w w');have d:=hid (λw'=>@afi zs aj ss s w w');clear h1 h2 h3 a hc;generalize bO zs aj ss=gb at *;generalize af s=p at *;go_enter Tryz.func42,Tryz.ntmps42;go_wp2_with fail;refine i.out.mono ?_;rintro e q ⟨rfl,f⟩;simp only[aB7]at f;have g:=hid (j.out.trans (f.mono (by omega)));clear i j f;cases gb with
 | false=>
  go_wp2_with fail
  go_ret2
  exact c.out _ (by first | rfl | trivial) g.out
 | true=>
  have b:p.1≠0:=by
   rcases m.out with h | h
   ·cases h
   ·exact h
  have k:((p.1:Int) !=0)=true:=by rw[bne_iff_ne];omega
  go_wp2_with fail;refine(C.out _).mono ?_;rintro e r ⟨l,⟨_,rfl⟩ | ⟨n,_⟩⟩
  ·have o:=hid (g.out.trans (l.mono g.out.size));clear C l;go_wp2_with fail
   go_ret2
   exact d.out _ (by first | rfl | trivial) b o.out
  ·exact absurd n b
theorem Zw(hm:s.size<=maxLen)(h1:Ints w a1 l1 c1 zs)(h2:Lists w a2 l2 c2 aj)(h3:Ints w a3 l3 c3 ss)(hG:bO zs aj ss=true)(h:(af s).1=0) :
  Calls Tryz.prog 42 #[.agg #[.slice a1 l1 c1,.slice a2 l2 c2,.slice a3 l3 c3],.string s] w (tZ zs aj ss s w):=by
 have ba:=(aB4 w.heap.size w).alloc (aB2 _) (.cells #[.slice a1 l1 c1,.slice a2 l2 c2,.slice a3 l3 c3] 25);have T0:=hid (dx w (.slice a1 l1 c1) (.slice a2 l2 c2) (.slice a3 l3 c3) 25);have IG:=hid (BU a1 a2 a3 l1 c1 l2 c2 l3 c3 zs aj ss _ (h1.below ba) (h2.below ba) (h3.below ba));have L1:=h1.hlen;have L2:=h2.hlen;have L3:=h3.hlen;obtain⟨g1,g6,g21,Yi,g3,gnu⟩:1<=l1/\l1<=6/\l1=l2/\dh zs=true/\l3≠0/\gm l1 ss=true:=by
  have h9:=hG;unfold bO at h9;rw[L1,L2,L3]at h9;simp only[aCH,aCZ]at h9;exact⟨h9.1.1.1.1.1.1,h9.1.1.1.1.1.2,h9.1.1.1.1.2.symm,h9.1.1.1.2,h9.1.1.2,h9.1.2⟩
 subst g21;have uO:=hid Yi;have HNU:=hid gnu;have sZ:=hid L1;have IE:=hid L3;have m1:=h1.hcap;have m2:=h1.hmax;have n1:=h2.hcap;have n2:=h2.hmax;have o1:=h3.hcap;have o2:=h3.hmax;have iJ:=hid ba;have J1:=hid (h1.below ba);have J2:=hid (h2.below ba);have J3:=hid (h3.below ba);rw[hG]at IG;have C:=hid (λW=>fe s W hm);unfold dF at C;have GD:=hid (iM h);have KOK:=hid (λw'=>@ajp zs aj ss s w w' hG h);generalize af s=p at *;obtain⟨p1,ns⟩:=p;dsimp only at *;subst h;clear h1 h2 h3 ba L1 L2 L3 Yi gnu hG hm;go_enter Tryz.func42,Tryz.ntmps42;go_wp2_with fail;refine IG.out.mono ?_;rintro e w1 ⟨rfl,b1⟩;have B1:=hid b1;clear IG b1;go_wp2_with fail;refine(C.out _).mono ?_;rintro e w2 ⟨b2,⟨h0,_⟩ | ⟨_,bs,rfl,hf⟩⟩
 ·exact absurd rfl h0
 have B2:=hid (B1.out.trans (b2.mono B1.out.size));obtain⟨gp,cap,zX⟩:=Rz hf GD.out.pos;have RW:=hid (DI _ gp cap ns bs w2 zX GD.out);clear C b2 hf zX B1;generalize w1.heap.size=F at *;go_wp2_with fail;refine RW.out.mono ?_;rintro e f ⟨R,vs,rfl,h,Ff,hM,aA⟩;have B3:=hid (B2.out.trans (aA.mono B2.out.size));have yC:=hid (iJ.out.trans (B3.out.mono iJ.out.size));have I1:=J1.out.below B3.out;have I2:=hid (J2.out.below B3.out);have I3:=hid (J3.out.below B3.out);have T3:=T0.out.below B3.out (by simp);have Qg:w.heap.size<f.heap.size:=by
  have:=B3.out.size;simp only[aB7]at this;omega
 have x0:=T3.c0;have x1:=T3.c1;have x2:=T3.c2;have auw:=hid Ff;have GV:=Tx GD.out Ff;obtain⟨gl,ol,e,lL,hlc⟩:=I1.hcell (by omega);subst e;have Al:=hid (λk (hk:k<l1)=>(by
  have h9:=Ja uO.out (j:=k) (by rw[sZ.out];exact hk);have h8:=ja.1 h9;exact⟨by unfold dJ;omega,by
   have h7:=hlc k hk;unfold dJ;rw[Int.toNat_of_nonneg h8.1];exact h7⟩:dJ zs k<8/\f.cell? ⟨gl,ol+k,none⟩=some (.int .i64 ((dJ zs k:Nat):Int))))
 clear RW aA B2 B3 iJ J1 J2 J3 T0 T3 I1 hlc Ff;obtain⟨v1,ca1,uJ,Hy,rfl,hsc,hrow⟩:=h.c1;obtain⟨v2,ca2,kZ,mQ,rfl,htc,Gp⟩:=h.c2;obtain⟨gs,rfl,nD,vo⟩:=hrow GV;obtain⟨gt,rfl,hgt,Gq⟩:=Gp GV;have hR:=h.lt;have r0:=h.c0;have di:=GD.out.le;have JJ:=hid h;have Nb:=hid vo;have agT:=hid Gq;have Nn:=hid (λW P' (hn:pI W P' (l1*vs.length) (uE ns vs (dJ zs) (eT aj) l1) ns.length (nz ns vs))=>Cb JW P' _ ns.length _ _ W hn (Nat.mul_pos (by omega) GV) (λa ha b hb=>NJ (Yp ns vs (dJ zs) (eT aj) (λi hi=>(Al.out i hi).1)) ha hb)
   (λa ha=>aCW (Af ns vs _ _ _ _ l1) (aCW (Nat.mul_le_mul g6 hM) (by omega))) (λa ha j=>aCW (ME ns vs _ _ _ _ j l1) (by omega)) (aCW (Nat.mul_le_mul g6 hM) (by omega)) (by omega))
 obtain⟨i0,hi,aT,aP,aO⟩:=info_parts Tryz.mE;obtain⟨i1,jU,gJ,gI,gG⟩:=info_parts Tryz.wP;obtain⟨i2b,vF,TV,TT,TR⟩:=info_parts Tryz.dY;obtain⟨i3,hi3,TU,TS,TQ⟩:=info_parts Tryz.AZ;have RD:=hid (λ(W:World) (b:Nat) (S:Nat->Bool) (a:Nat) (ha:a<8) (h1:Below f.heap.size f W) (h2:Rb W b ns.length S)=>DJ F gp cap b ns.length ns bs S W a ha (h.fr.below h1) h2 GD.out (aB2 _));have KD:=hid (λ(W:World) (b:Nat) (S:Nat->Bool) (p:Nat) (hp:p<ns.length) (h1:Below f.heap.size f W) (h2:Rb W b ns.length S)=>Ki F gp cap b ns.length ns bs S W p hp (h.fr.below h1) h2 GD.out (aB2 _));have WH:=hid (λ(W:World) (h1:Below f.heap.size f W)=>FH R F gp cap ns bs vs false W (h.below h1) GD.out hM);have Un:=g6;clear h vo Gq hrow Gp;generalize hGG:w.heap.size=G at *;go_wp2_with fail;have ba:=hid ((aB4 f.heap.size f).alloc (aB2 _) (.cells #[.slice none 0 0,.slice none 0 0] 140));have T1:=hid (bY f (.slice none 0 0) (.slice none 0 0) 140)
 go_loopw [12] (λi r=>∃ (k:Nat) (M:Value) (V:Nat->Value),k<=l1/\i=.int .i64 k/\Hid (Two r f.heap.size M (.slice none 0 0))/\Hid (fZ r (f.heap.size+1) 22 3 M (k*vs.length) V (λq=>aI (uE ns vs (dJ zs) (eT aj) l1 q)))/\Hid (Below f.heap.size f r)/\f.heap.size+1<=r.heap.size) (λi _=>l1 - (intOf i).toNat)
 case atStart=>exact⟨0,_,λ_=>.slice none 0 0,aCg _,rfl,T1,by rw[Nat.zero_mul];exact hid (uk _ _ _ _ _ _),ba,by simp⟩
 case round=>
  obtain⟨k,M,V,hk,rfl,v,A,g,Z⟩:=hrel;rename World=>W0;clear ba T1;have Ho:=(g.out.cell (p:=⟨G,0,none⟩) Qg).trans x0;by_cases hlk:k<l1
  ·go_wp2_with fail
   go_loopw [13] (λi r=>∃ (l:Nat) (M:Value) (V:Nat->Value),l<=vs.length/\i=.int .i64 l/\Hid (Two r f.heap.size M (.slice none 0 0))/\Hid (fZ r (f.heap.size+1) 22 3 M (k*vs.length+l) V (λq=>aI (uE ns vs (dJ zs) (eT aj) l1 q)))/\Hid (Below f.heap.size f r)/\f.heap.size+1<=r.heap.size) (λi _=>vs.length - (intOf i).toNat)
   case atStart=>exact⟨0,_,V,aCg _,rfl,v,A,g,Z⟩
   case round=>
    obtain⟨l,M,V,zW,rfl,v,A,g,Z⟩:=hrel;rename World=>W1;clear Ho;by_cases qU:l<vs.length
    ·obtain⟨b,cb,nM⟩:=Nb.out l qU;have x0':=(g.out.cell (p:=⟨G,0,none⟩) Qg).trans x0;have lk':=(g.out.cell (p:=⟨gl,ol+k,none⟩) lL).trans (Al.out k hlk).2;have agJ:=(g.out.cell (p:=⟨R,1,none⟩) hR).trans ca1;have Hw:=(g.out.cell (p:=⟨gs,l,none⟩) nD).trans cb;have C:=λm=>RD.out (W1.drewN m) b (aX vs l) (dJ zs k) (Al.out k hlk).1 (aCl g.out m) ((nM.below g.out).drewN m);have HSY:=hid (λy=>Ov ns vs (dJ zs) (eT aj) (k:=k) (i:=l) (y:=y));have QR:=hid (λy=>Vn ns vs (dJ zs) (eT aj) (k:=k) (i:=l) (y:=y));have oI:=hid (QD ns vs (dJ zs) (eT aj) (k:=k) (i:=l));have ik1:(0:Int)<=(k:Int):=by omega
     have ik2:(k:Int)<(l1:Int):=by omega
     clear cb nM;generalize iR ns (aX vs l) (dJ zs k)=rv at *;go_wp2_with fail
     go_quiet ((go_at_call 81;exact Calls.quiet_of_same (C _)))
     have bF:=hid (aCl g.out nq);have bq:=aCl (aB4 W1.heap.size W1) nq;have p9:=hid (v.out.below bq v.out.lt);have sV:=hid (A.out.keeps bq);have NZ:f.heap.size+1<=(W1.drewN nq).heap.size:=Z;clear C x0' lk' agJ Hw bq v A g Z;generalize W1.drewN nq=W2 at *;have Dc:=hid (λq (hq:q<k*vs.length+l) z (h:(V q).ownBlock=some z)=>((sV.out.row q hq).lt z h).2);obtain⟨rT,cT,Yv,atQ,e,apj,jK⟩:=agT.out l qU;subst e;have We:=hid cT;have De:=hid jK;have azD:=zf ns vs l;have lq:=hid (λb=>KU (ns:=ns) (vs:=vs) (i:=l) (b:=b));clear cT jK;generalize nY:(toS ns vs l).length=ln at *;have bW:=hid nY;clear nY;go_wp2_with fail
     go_loopw [14,16] (λto i r=>∃ y:Nat,y<=l1/\i=.int .i64 y/\Hid (rz r W2.heap.size to (pE ns vs (dJ zs) (eT aj) k l y))/\Hid (Two r f.heap.size M (.slice none 0 0))/\Hid (fZ r (f.heap.size+1) 22 3 M (k*vs.length+l) V (λq=>aI (uE ns vs (dJ zs) (eT aj) l1 q)))/\Hid (Below f.heap.size f r)/\W2.heap.size<=r.heap.size) (λ_ i _=>l1 - (intOf i).toNat)
     case atStart=>exact⟨0,by omega,rfl,hid (aCp _ _ _ _),p9,sV,bF,aB2 _⟩
     case round=>
      obtain⟨y,hy,rfl,B,v,A,g,jT⟩:=hrel;rename World=>W3;clear p9 sV bF;have x0':=(g.out.cell (p:=⟨G,0,none⟩) Qg).trans x0;by_cases hly:y<l1
      ·cases rv with
       | false=>
        have hsl:pE ns vs (dJ zs) (eT aj) k l y=uE ns vs (dJ zs) (eT aj) l1 (k*vs.length+l):=by rw[Ht ns vs (dJ zs) (eT aj) l1 qU,oI.out rfl,oI.out rfl]
        rw[hsl]at B;unfold rz at B;clear hsl;have Ud:(uE ns vs (dJ zs) (eT aj) l1 (k*vs.length+l)).length<=2048:=by
         rw[Ht ns vs (dJ zs) (eT aj) l1 qU];exact aCW (Af ns vs (dJ zs) (eT aj) k l l1) (aCW (Nat.mul_le_mul Un hM) (by omega))
        have P6:k*vs.length+l<6*256:=aCq (xh (show k<6 by omega) qU) (Nat.mul_le_mul_left _ hM);have Iy:Hid (k*vs.length+(l+1)=(k*vs.length+l)+1):=hid rfl;generalize hqE:k*vs.length+l=qq at *;generalize GY:uE ns vs (dJ zs) (eT aj) l1 qq=L at *;obtain⟨H,I,rfl⟩:=ak B.out;obtain⟨sQ,sN,rfl⟩:=ak A.out.out;have k0:=v.out.c0;have J:=(aB4 W3.heap.size W3).alloc (aB2 _) (.cells #[.slice H L.length I] 22);go_wp2_with (at_builtin;go_must (refine aCE _ rfl (.tmp 125) (.tmp 127) 23 rfl (f.heap.size+1) 22 i1 (.slice none 0 0) 1 24 Tryz.underlying23 jU gJ gI gG rfl (by decide) _ qq ((List.range qq).map V) rfl (A.out.out.alloc _) ⟨W3.heap.size,0,none⟩ 1 1 [.slice H L.length I] rfl rfl (dH W3 [.slice H L.length I] _) (by intro y9 hy9;simp at hy9;rcases hy9 with rfl;rfl) (by decide) (by unfold maxLen;omega) (by omega) (by simp;omega) (W3.heap.size+1) (by simp) ?_));intro T X Y u d K qj;have uz:W3.heap.size<=Y.heap.size:=by
         have:=d.size;simp at this;omega
        have rV:=v.out.lt;have qx:(Value.slice sQ qq sN).ownBlock≠some f.heap.size:=λe=>by have:=(A.out.out.lt _ e).1;omega
        have D:=d.block f.heap.size (by rw[aB7];omega) (λe=>qx e.symm);have E:=v.out.below J rV;have O:Two Y f.heap.size (.slice sQ qq sN) (.slice none 0 0):=⟨(aCn (a:=⟨f.heap.size,0,none⟩) D).trans E.c0,(aCn (a:=⟨f.heap.size,1,none⟩) D).trans E.c1,(aCo (a:=⟨f.heap.size,0,none⟩) D).trans E.f0,(aCo (a:=⟨f.heap.size,1,none⟩) D).trans E.f1⟩;have p8:=(bQ B.out (show f.heap.size+1<=W2.heap.size by omega)).alloc (.cells #[.slice H L.length I] 22);have V7:=nL (A.out.keeps J) (x:=.slice H L.length I) (by rw[GY,ny];exact p8) (by decide) d u;have q0:=O.c0;have q1:=O.f0;have D1:=hid (O.set0 (.slice (some ⟨T,0,none⟩) (qq+1) X));have D2:=hid (V7.set (show f.heap.size<f.heap.size+1 by omega) 0 (.slice (some ⟨T,0,none⟩) (qq+1) X));have D4:=hid (((g.out.alloc g.out.size (.cells #[.slice H L.length I] 22)).grown d (by simp;omega) (λq h=>by have:=(A.out.out.lt q h).1;omega)).setCell (p:=⟨f.heap.size,0,none⟩) (aB2 _) (.slice (some ⟨T,0,none⟩) (qq+1) X));clear u d K J B v A g p8 O V7 qx D E;go_wp2_with fail;go_roundw
        case rel=>exact⟨l+1,_,_,by omega,by go_num,D1,by rw[Iy.out];exact D2,D4,by simp;omega⟩
        case measure=>simp[intOf];omega
       | true=>
        have Ji:=(g.out.cell (p:=⟨G,1,none⟩) Qg).trans x1;have KR:=(g.out.cell (p:=⟨G,2,none⟩) Qg).trans x2;have EG:=hid (FX (some ⟨gl,ol,none⟩) a2 a3 l1 c1 l1 c2 l3 c3 aj W3 k y (I2.out.below g.out) hlk);have iZ:=hid (Bp ns vs (dJ zs) (eT aj) k l y);have aud:=hid (HSY.out y);have aue:=hid (QR.out y);have aph:(pE ns vs (dJ zs) (eT aj) k l y).length<=1536:=aCW (Af ns vs (dJ zs) (eT aj) k l y) (aCW (Nat.mul_le_mul (show y<=6 by omega) hM) (by omega));generalize eT aj k y=ev at *;go_wp2_with fail;refine EG.out.mono ?_;rintro e W4 ⟨rfl,dB⟩;have nK:=hid (ai B.out dB);have p9:=hid (v.out.below dB v.out.lt);have sV:=hid (A.out.keeps dB);have bF:=hid (g.out.trans (dB.mono g.out.size));have Kk:W2.heap.size<=W4.heap.size:=aCW jT dB.size;clear EG dB B v A g jT x0' Ji KR;have jd:y*vs.length<=6*256:=Nat.mul_le_mul (by omega) hM;have wm:IntKind.i64.wrap ((y:Int)*(vs.length:Int))=((y*vs.length:Nat):Int):=by
         rw[IntKind.wrap_i64,<-Int.natCast_mul];omega
        generalize Ue:y*vs.length=pr at *;have HPR:=hid Ue;clear Ue;go_wp2_with fail
        go_loopw [14,18] (λto i r=>∃ j:Nat,j<=ln/\i=.int .i64 j/\Hid (ev=true\/j=0)/\Hid (rz r W2.heap.size to (MF ns vs (dJ zs) (eT aj) k l y pr j))/\Hid (Two r f.heap.size M (.slice none 0 0))/\Hid (fZ r (f.heap.size+1) 22 3 M (k*vs.length+l) V (λq=>aI (uE ns vs (dJ zs) (eT aj) l1 q)))/\Hid (Below f.heap.size f r)/\W2.heap.size<=r.heap.size) (λ_ i _=>ln - (intOf i).toNat)
        case atStart=>exact⟨0,aCg _,rfl,hid (aCb rfl),hid (by unfold rz MF;simpa [rz] using nK.out),p9,sV,bF,Kk⟩
        case round=>
         obtain⟨j,hj,rfl,Bi,B,v,A,g,jT⟩:=hrel;rename World=>W5;clear nK p9 sV bF Kk;have t2:=(g.out.cell (p:=⟨R,2,none⟩) hR).trans ca2;have t3:=(g.out.cell (p:=⟨gt,l,none⟩) hgt).trans We.out;have fin:¬ (j<ln/\ev=true)->Hid (pE ns vs (dJ zs) (eT aj) k l (y+1)=MF ns vs (dJ zs) (eT aj) k l y pr j):=λhno=>hid (by
          rw[iZ.out];unfold MF;congr 1;by_cases c:ev=true
          ·rw[aud.out ⟨by first | rfl | trivial,c⟩,List.take_of_length_le (by rw[bW.out];exact Nat.le_of_not_lt λh=>hno ⟨h,c⟩)]
          ·rcases Bi.out with h | h
           ·exact absurd h c
           ·rw[h,aue.out (λh=>c h.2)];rfl)
         by_cases iT:j<ln
         ·cases ev with
          | false=>
           have FN:=fin (by simp);rw[<-FN.out]at B;clear fin FN Bi;go_wp2_with fail;go_roundw
           case rel=>exact⟨y+1,by omega,by go_num,B,v,A,g,jT⟩
           case measure=>simp[intOf];omega
          | true=>
           obtain⟨gr,e,hgr,qR⟩:=De.out (by omega);subst e;obtain⟨t,ht⟩:∃ t,(toS ns vs l)[j]?=some t:=⟨(toS ns vs l)[j]'(by rw[bW.out];exact iT),aB3 (by rw[bW.out];exact iT)⟩;have htM:=lq.out t (aCJ ht);have K:bZ (toS ns vs l) j=t:=by simp[bZ,List.getD,ht]
           have t4:W5.cell? ⟨gr,j,none⟩=some (.int .i64 (t:Nat)):=(g.out.cell (p:=⟨gr,j,none⟩) hgr).trans (by have h9:=qR j iT;rw[K]at h9;exact h9);have JH:Hid ((toS ns vs l).take (j+1)=(toS ns vs l).take j++[t]):=hid (by rw[List.take_add_one,ht];rfl);have wa:IntKind.i64.wrap ((pr:Int)+(t:Int))=(pr:Int)+(t:Int):=by rw[IntKind.wrap_i64];omega
           have rU:((toS ns vs l).take j).length=j:=by rw[List.length_take,bW.out];omega
           have hLl:(MF ns vs (dJ zs) (eT aj) k l y pr j).length<=2048+256:=by unfold MF;rw[aCd,aCO,rU];omega
           clear fin qR ht K rU;generalize GY:MF ns vs (dJ zs) (eT aj) k l y pr j=L at *;unfold rz at B;obtain⟨H,I,rfl⟩:=ak B.out;have nJ:=hid (λq h=>(B.out.lt q h).1);go_wp2_with (at_builtin;go_must (refine aCE _ rfl (.tmp 104) (.tmp 119) 22 rfl W2.heap.size 3 i0 (.int .i64 0) 1 8 Tryz.underlying22 hi aT aP aO rfl (by decide) _ L.length (aI L) rfl (B.out.alloc _) ⟨W5.heap.size,0,none⟩ 1 1 [.int .i64 ((pr:Int)+(t:Int))] rfl rfl (dH W5 [.int .i64 ((pr:Int)+(t:Int))] _) (by intro y hy;simp at hy;rcases hy with rfl;rfl) (by decide) (by unfold maxLen;omega) (by omega) (by simp;omega) (W5.heap.size+1) (by simp) ?_));intro T X Y u d K qj;have J:=(aB4 W5.heap.size W5).alloc (aB2 _) (.cells #[.int .i64 ((pr:Int)+(t:Int))] 3);have uz:W5.heap.size<=Y.heap.size:=by
            have:=d.size;simp at this;omega
           have GX:(Value.slice H L.length I).ownBlock≠some f.heap.size:=λe=>by have:=nJ.out _ e;omega
           have D:=d.block f.heap.size (by rw[aB7];have:=v.out.lt;omega) (λe=>GX e.symm);have O:Hid (Two Y f.heap.size M (.slice none 0 0)):=hid (by
            have E:=v.out.below J v.out.lt;exact⟨(aCn (a:=⟨f.heap.size,0,none⟩) D).trans E.c0,(aCn (a:=⟨f.heap.size,1,none⟩) D).trans E.c1,(aCo (a:=⟨f.heap.size,0,none⟩) D).trans E.f0,(aCo (a:=⟨f.heap.size,1,none⟩) D).trans E.f1⟩)
           have V7:=hid ((A.out.keeps J).xk d (aY (A.out.keeps J).out (B.out.alloc (.cells #[.int .i64 ((pr:Int)+(t:Int))] 3)) (by decide)) (λq hq=>by
            cases hv:(V q).ownBlock with
            | none=>exact aCa rfl
            | some z=>
             refine aCb λe=>?_;have h1:=nJ.out z e.symm;have h2:=Dc.out q hq z hv;omega))
           have L7:Hid (rz Y W2.heap.size (.slice (some ⟨T,0,none⟩) (L.length+1) X) (MF ns vs (dJ zs) (eT aj) k l y pr (j+1))):=hid (by
            have agc:pE ns vs (dJ zs) (eT aj) k l y++((toS ns vs l).take j).map (λq=>pr+q)=L:=GY;unfold rz MF;rw[JH.out,aCM,<-List.append_assoc,agc,aCd,show aI (L++List.map (λj=>pr+j) [t])=aI L++[.int .i64 ((pr:Int)+(t:Int))] by simp[aI]];exact u)
           have jE:=hid ((g.out.alloc (by omega) (.cells #[.int .i64 ((pr:Int)+(t:Int))] 3)).grown d (by simp;omega) (λq h=>by have:=nJ.out q h;omega));clear u d K J D B v A g GX;go_wp2_with fail;go_roundw
           case rel=>exact⟨j+1,by omega,by go_num,hid (aCa (by first | rfl | trivial)),L7,O,V7,jE,by omega⟩
           case measure=>simp[intOf];omega
         ·have FN:=fin (λh=>iT h.1);rw[<-FN.out]at B;obtain rfl:j=ln:=by omega
          clear fin FN Bi;go_wp2_with fail;go_roundw
          case rel=>exact⟨y+1,by omega,by go_num,B,v,A,g,jT⟩
          case measure=>simp[intOf];omega
      ·obtain rfl:y=l1:=by omega
       have hsl:pE ns vs (dJ zs) (eT aj) k l y=uE ns vs (dJ zs) (eT aj) y (k*vs.length+l):=by rw[Ht ns vs (dJ zs) (eT aj) y qU]
       rw[hsl]at B;unfold rz at B;clear hsl;have Ud:(uE ns vs (dJ zs) (eT aj) y (k*vs.length+l)).length<=2048:=by
        rw[Ht ns vs (dJ zs) (eT aj) y qU];exact aCW (Af ns vs (dJ zs) (eT aj) k l y) (aCW (Nat.mul_le_mul Un hM) (by omega))
       have P6:k*vs.length+l<6*256:=aCq (xh (show k<6 by omega) qU) (Nat.mul_le_mul_left _ hM);have Iy:Hid (k*vs.length+(l+1)=(k*vs.length+l)+1):=hid rfl;generalize hqE:k*vs.length+l=qq at *;generalize GY:uE ns vs (dJ zs) (eT aj) y qq=L at *;obtain⟨H,I,rfl⟩:=ak B.out;obtain⟨sQ,sN,rfl⟩:=ak A.out.out;have k0:=v.out.c0;have J:=(aB4 W3.heap.size W3).alloc (aB2 _) (.cells #[.slice H L.length I] 22);go_wp2_with (at_builtin;go_must (refine aCE _ rfl (.tmp 125) (.tmp 127) 23 rfl (f.heap.size+1) 22 i1 (.slice none 0 0) 1 24 Tryz.underlying23 jU gJ gI gG rfl (by decide) _ qq ((List.range qq).map V) rfl (A.out.out.alloc _) ⟨W3.heap.size,0,none⟩ 1 1 [.slice H L.length I] rfl rfl (dH W3 [.slice H L.length I] _) (by intro y9 hy9;simp at hy9;rcases hy9 with rfl;rfl) (by decide) (by unfold maxLen;omega) (by omega) (by simp;omega) (W3.heap.size+1) (by simp) ?_));intro T X Y u d K qj;have uz:W3.heap.size<=Y.heap.size:=by
        have:=d.size;simp at this;omega
       have rV:=v.out.lt;have qx:(Value.slice sQ qq sN).ownBlock≠some f.heap.size:=λe=>by have:=(A.out.out.lt _ e).1;omega
       have D:=d.block f.heap.size (by rw[aB7];omega) (λe=>qx e.symm);have E:=v.out.below J rV;have O:Two Y f.heap.size (.slice sQ qq sN) (.slice none 0 0):=⟨(aCn (a:=⟨f.heap.size,0,none⟩) D).trans E.c0,(aCn (a:=⟨f.heap.size,1,none⟩) D).trans E.c1,(aCo (a:=⟨f.heap.size,0,none⟩) D).trans E.f0,(aCo (a:=⟨f.heap.size,1,none⟩) D).trans E.f1⟩;have p8:=(bQ B.out (show f.heap.size+1<=W2.heap.size by omega)).alloc (.cells #[.slice H L.length I] 22);have V7:=nL (A.out.keeps J) (x:=.slice H L.length I) (by rw[GY,ny];exact p8) (by decide) d u;have q0:=O.c0;have q1:=O.f0;have D1:=hid (O.set0 (.slice (some ⟨T,0,none⟩) (qq+1) X));have D2:=hid (V7.set (show f.heap.size<f.heap.size+1 by omega) 0 (.slice (some ⟨T,0,none⟩) (qq+1) X));have D4:=hid (((g.out.alloc g.out.size (.cells #[.slice H L.length I] 22)).grown d (by simp;omega) (λq h=>by have:=(A.out.out.lt q h).1;omega)).setCell (p:=⟨f.heap.size,0,none⟩) (aB2 _) (.slice (some ⟨T,0,none⟩) (qq+1) X));clear u d K J B v A g p8 O V7 qx D E;go_wp2_with fail;go_roundw
       case rel=>exact⟨l+1,_,_,by omega,by go_num,D1,by rw[Iy.out];exact D2,D4,by simp;omega⟩
       case measure=>simp[intOf];omega
    ·obtain rfl:l=vs.length:=by omega
     have VS:Hid ((k+1)*vs.length=k*vs.length+vs.length):=hid (Nat.succ_mul _ _);go_wp2_with fail;go_roundw
     case rel=>exact⟨k+1,M,V,by omega,by go_num,v,by rw[VS.out];exact A,g,Z⟩
     case measure=>simp[intOf];omega
  ·obtain rfl:k=l1:=by omega
   have Am:=hid JJ.out.fr;have hF:=Am.out.PM;have fr0:=Am.out.c0;have hkM:k*vs.length<=6*256:=Nat.mul_le_mul g6 hM;go_wp2_with fail;clear Ho
   go_loopw [19] (λi r=>∃ (p:Nat) (vK:Value) (U:Nat->Value),p<=ns.length/\i=.int .i64 p/\Hid (Two r f.heap.size M vK)/\Hid (fZ r (f.heap.size+1) 22 3 M (k*vs.length) V (λq=>aI (uE ns vs (dJ zs) (eT aj) k q)))/\Hid (fZ r (f.heap.size+1) 132 4 vK p U (λq=>ax (nz ns vs q) (k*vs.length) (k*vs.length)))/\Hid (Below f.heap.size f r)/\f.heap.size+1<=r.heap.size) (λi _=>ns.length - (intOf i).toNat)
   case atStart=>exact⟨0,_,λ_=>.slice none 0 0,aCg _,rfl,v,A,hid (uk _ _ _ _ _ _),g,Z⟩
   case round=>
    obtain⟨p,vK,U,hp,rfl,v,A,Q,g,Z⟩:=hrel;rename World=>W1;have zJ:=(g.out.cell (p:=⟨R,0,none⟩) hR).trans r0;have UT:=(g.out.cell (p:=⟨F,0,none⟩) hF).trans fr0;by_cases XX:p<ns.length
    ·have HUB:=hid (λq (hq:q<p) z (h:(U q).ownBlock=some z)=>((Q.out.row q hq).lt z h).2);go_wp2_with fail
     go_loopw [20,21] (λkept i r=>∃ n:Nat,n<=k/\i=.int .i64 n/\Hid (r.ownsRow W1.heap.size 4 1 kept (n*vs.length) (ax (nz ns vs p) (n*vs.length) (n*vs.length)))/\Hid (Two r f.heap.size M vK)/\Hid (fZ r (f.heap.size+1) 22 3 M (k*vs.length) V (λq=>aI (uE ns vs (dJ zs) (eT aj) k q)))/\Hid (fZ r (f.heap.size+1) 132 4 vK p U (λq=>ax (nz ns vs q) (k*vs.length) (k*vs.length)))/\Hid (Below f.heap.size f r)/\W1.heap.size<=r.heap.size) (λ_ i _=>k - (intOf i).toNat)
     case atStart=>exact⟨0,aCg _,rfl,by rw[Nat.zero_mul];exact hid (aCp _ _ _ _),v,A,Q,g,aB2 _⟩
     case round=>
      obtain⟨n,wy,rfl,B,v,A,Q,g,jT⟩:=hrel;rename World=>W2;clear zJ UT;have Ho:=(g.out.cell (p:=⟨G,0,none⟩) Qg).trans x0;by_cases Ul:n<k
      ·go_wp2_with fail;clear Ho
       go_loopw [20,22] (λkept i r=>∃ o:Nat,o<=vs.length/\i=.int .i64 o/\Hid (r.ownsRow W1.heap.size 4 1 kept (n*vs.length+o) (ax (nz ns vs p) (n*vs.length+o) (n*vs.length+o)))/\Hid (Two r f.heap.size M vK)/\Hid (fZ r (f.heap.size+1) 22 3 M (k*vs.length) V (λq=>aI (uE ns vs (dJ zs) (eT aj) k q)))/\Hid (fZ r (f.heap.size+1) 132 4 vK p U (λq=>ax (nz ns vs q) (k*vs.length) (k*vs.length)))/\Hid (Below f.heap.size f r)/\W1.heap.size<=r.heap.size) (λ_ i _=>vs.length - (intOf i).toNat)
       case atStart=>exact⟨0,aCg _,rfl,B,v,A,Q,g,jT⟩
       case round=>
        obtain⟨o,af5,rfl,B,v,A,Q,g,jT⟩:=hrel;rename World=>W3;by_cases vD:o<vs.length
        ·obtain⟨b,cb,nM⟩:=Nb.out o vD;have zJ:=(g.out.cell (p:=⟨R,0,none⟩) hR).trans r0;have agJ:=(g.out.cell (p:=⟨R,1,none⟩) hR).trans ca1;have Hw:=(g.out.cell (p:=⟨gs,o,none⟩) nD).trans cb;have C:=KD.out W3 b (aX vs o) p XX g.out (nM.below g.out);have zV:n*vs.length+o<6*256:=aCq (xh (show n<6 by omega) vD) (Nat.mul_le_mul_left _ hM);have HKP:Hid (nz ns vs p (n*vs.length+o)=iq (au ns p) p (aX vs o)):=hid (by unfold nz;rw[uV vD];rfl);clear cb nM;generalize iq (au ns p) p (aX vs o)=kv at *;go_wp2_with fail;refine C.mono ?_;rintro e W4 ⟨rfl,e4⟩;rw[<-e4]at g B v A Q jT;have bF:=g;have nK:=B;have p9:=v;have sV:=A;have VQ:=Q;have Kk:=jT;clear C zJ agJ Hw B v A Q g jT e4;have Iy:Hid (n*vs.length+(o+1)=(n*vs.length+o)+1):=hid rfl;generalize hqE:n*vs.length+o=qq at *;obtain⟨H,I,rfl⟩:=ak nK.out;have nJ:=hid (λq h=>(nK.out.lt q h).1);go_wp2_with (at_builtin;go_must (refine aCE _ rfl (.tmp 162) (.tmp 164) 132 rfl W1.heap.size 4 i2b (.bool false) 1 1 Tryz.underlying132 vF TV TT TR rfl (by decide) _ qq (ax (nz ns vs p) qq qq) rfl (nK.out.alloc _) ⟨W4.heap.size,0,none⟩ 1 1 [.bool kv] rfl rfl (dH W4 [.bool kv] _) (by intro y hy;simp at hy;rcases hy with rfl;rfl) (by decide) (by unfold maxLen;omega) (by omega) (by simp;omega) (W4.heap.size+1) (by simp) ?_));intro T X Y u d K qj;have J:=(aB4 W4.heap.size W4).alloc (aB2 _) (.cells #[.bool kv] 4);have uz:W4.heap.size<=Y.heap.size:=by
          have:=d.size;simp at this;omega
         have GX:(Value.slice H qq I).ownBlock≠some f.heap.size:=λe=>by have:=nJ.out _ e;omega
         have rV:=p9.out.lt;have D:=d.block f.heap.size (by rw[aB7];omega) (λe=>GX e.symm);have O:Hid (Two Y f.heap.size M vK):=hid (by
          have E:=p9.out.below J rV;exact⟨(aCn (a:=⟨f.heap.size,0,none⟩) D).trans E.c0,(aCn (a:=⟨f.heap.size,1,none⟩) D).trans E.c1,(aCo (a:=⟨f.heap.size,0,none⟩) D).trans E.f0,(aCo (a:=⟨f.heap.size,1,none⟩) D).trans E.f1⟩)
         have V7:=hid ((sV.out.keeps J).xk d (aY (sV.out.keeps J).out (nK.out.alloc (.cells #[.bool kv] 4)) (by decide)) (λq hq=>aY ((sV.out.keeps J).row q hq) (nK.out.alloc (.cells #[.bool kv] 4)) (by decide)));have U7:=hid ((VQ.out.keeps J).xk d (aY (VQ.out.keeps J).out (nK.out.alloc (.cells #[.bool kv] 4)) (by decide)) (λq hq=>by
          cases hv:(U q).ownBlock with
          | none=>exact aCa rfl
          | some z=>
           refine aCb λe=>?_;have h1:=nJ.out z e.symm;have h2:=HUB.out q hq z hv;omega))
         have L7:Hid (Y.ownsRow W1.heap.size 4 1 (.slice (some ⟨T,0,none⟩) (qq+1) X) (qq+1) (ax (nz ns vs p) (qq+1) (qq+1))):=hid (by
          rw[Lu,HKP.out];exact u)
         have jE:=hid ((bF.out.alloc (by omega) (.cells #[.bool kv] 4)).grown d (by simp;omega) (λq h=>by have:=nJ.out q h;omega));clear u d K J D nK p9 sV VQ bF GX;go_wp2_with fail;go_roundw
         case rel=>exact⟨o+1,by omega,by go_num,by rw[Iy.out];exact L7,O,V7,U7,jE,by omega⟩
         case measure=>simp[intOf];omega
        ·obtain rfl:o=vs.length:=by omega
         have VS:Hid ((n+1)*vs.length=n*vs.length+vs.length):=hid (Nat.succ_mul _ _);go_wp2_with fail;go_roundw
         case rel=>exact⟨n+1,by omega,by go_num,by rw[VS.out];exact B,v,A,Q,g,jT⟩
         case measure=>simp[intOf];omega
      ·obtain rfl:n=k:=by omega
       obtain⟨H,I,rfl⟩:=ak B.out;obtain⟨sQ,sN,rfl⟩:=ak Q.out.out;have k0:=v.out.c1;have J:=(aB4 W2.heap.size W2).alloc (aB2 _) (.cells #[.slice H (n*vs.length) I] 132);go_wp2_with (at_builtin;go_must (refine aCE _ rfl (.tmp 170) (.tmp 172) 77 rfl (f.heap.size+1) 132 i3 (.slice none 0 0) 1 24 Tryz.underlying77 hi3 TU TS TQ rfl (by decide) _ p ((List.range p).map U) rfl (Q.out.out.alloc _) ⟨W2.heap.size,0,none⟩ 1 1 [.slice H (n*vs.length) I] rfl rfl (dH W2 [.slice H (n*vs.length) I] _) (by intro y hy;simp at hy;rcases hy with rfl;rfl) (by decide) (by unfold maxLen;omega) (by omega) (by simp;omega) (W2.heap.size+1) (by simp) ?_));intro T X Y u d K qj;have uz:W2.heap.size<=Y.heap.size:=by
        have:=d.size;simp at this;omega
       have rV:=v.out.lt;have qx:(Value.slice sQ p sN).ownBlock≠some f.heap.size:=λe=>by have:=(Q.out.out.lt _ e).1;omega
       have D:=d.block f.heap.size (by rw[aB7];omega) (λe=>qx e.symm);have E:=v.out.below J rV;have O:Two Y f.heap.size M (.slice sQ p sN):=⟨(aCn (a:=⟨f.heap.size,0,none⟩) D).trans E.c0,(aCn (a:=⟨f.heap.size,1,none⟩) D).trans E.c1,(aCo (a:=⟨f.heap.size,0,none⟩) D).trans E.f0,(aCo (a:=⟨f.heap.size,1,none⟩) D).trans E.f1⟩;have p8:=(bQ B.out (show f.heap.size+1<=W1.heap.size by omega)).alloc (.cells #[.slice H (n*vs.length) I] 132);have U7:=nL (Q.out.keeps J) (x:=.slice H (n*vs.length) I) (by rw[zM];exact p8) (by decide) d u;have V7:=(A.out.keeps J).grown (Q.out.out.alloc (.cells #[.slice H (n*vs.length) I] 132)) d (by decide) (by decide);have q0:=O.c1;have q1:=O.f1;have D1:=hid (O.set1 (.slice (some ⟨T,0,none⟩) (p+1) X));have D2:=hid (U7.set (show f.heap.size<f.heap.size+1 by omega) 1 (.slice (some ⟨T,0,none⟩) (p+1) X));have D3:=hid (V7.set (show f.heap.size<f.heap.size+1 by omega) 1 (.slice (some ⟨T,0,none⟩) (p+1) X));have D4:=hid (((g.out.alloc g.out.size (.cells #[.slice H (n*vs.length) I] 132)).grown d (by simp;omega) (λq h=>by have:=(Q.out.out.lt q h).1;omega)).setCell (p:=⟨f.heap.size,1,none⟩) (aB2 _) (.slice (some ⟨T,0,none⟩) (p+1) X));clear u d K J B v A Q g p8 O V7 U7 qx D E;go_wp2_with fail;go_roundw
       case rel=>exact⟨p+1,_,_,by omega,by go_num,D1,D3,D2,D4,by simp;omega⟩
       case measure=>simp[intOf];omega
    ·obtain rfl:p=ns.length:=by omega
     have rV:=v.out.lt;have NM:=hid (show pI W1 f.heap.size (k*vs.length) (uE ns vs (dJ zs) (eT aj) k) ns.length (nz ns vs) from ⟨rV,⟨_,v.out.c0,IR A.out⟩,⟨_,v.out.c1,Xy (Nat.mul_pos (by omega) GV) Q.out⟩⟩);clear v A Q;go_wp2_with fail;refine(Nn.out W1 f.heap.size NM.out).mono ?_;rintro e w5 ⟨g5,good,rfl,hg5,Yd,vG,bi⟩;have fH:=hid (g.out.trans (bi.mono g.out.size));have HBO:=hid Yd;have aom:Hid ((∃ j,j<l3/\∃ i,i<vs.length/\aX vs i (ns.length - 1)=false/\good ((ss.getD j 0).toNat*vs.length+i)=true)↔¬ rP ns zs.length (dJ zs) (eT aj) (wB ss)):=hid (by
      rw[sZ.out,<-agE GD.out auw.out (λi hi=>(Al.out i hi).1) vG,<-IE.out];exact(agC HNU.out (P:=λk=>∃ i,i<vs.length/\aX vs i (ns.length - 1)=false/\good (k*vs.length+i)=true)).symm)
     clear Yd vG bi zJ UT;go_wp2_with fail;refine(WH.out w5 fH.out).mono ?_;rintro e w6 ⟨g6',rfl,nM,hg6,gT⟩;have jV:=hid (fH.out.trans (gT.mono fH.out.size));have H6:=hid nM;have H5:=hid (λi (hi:i<k*vs.length)=>(gT.cell (p:=⟨g5,i,none⟩) HBO.out.blk.2).trans (HBO.out.get hi));have HBE:=hid (yC.out.trans (jV.out.mono (Nat.le_of_lt Qg)));clear nM gT g fH;have y2:=(jV.out.cell (p:=⟨G,2,none⟩) Qg).trans x2;have HI3:=hid (I3.out.below jV.out);go_wp2_with fail
     go_loopw [26] (λi r=>∃ n:Nat,n<=l3/\i=.int .i64 n/\Hid (∀ j,j<n->¬ ∃ i,i<vs.length/\aX vs i (ns.length - 1)=false/\good ((ss.getD j 0).toNat*vs.length+i)=true)/\w6=r) (λi _=>l3 - (intOf i).toNat)
     case atStart=>exact⟨0,aCg _,rfl,hid (λj h=>by omega),rfl⟩
     case round=>
      obtain⟨n,wy,rfl,HA,e⟩:=hrel;subst e;by_cases Ul:n<l3
      ·obtain⟨gz,oz,e,hgz,hzc⟩:=HI3.out.hcell (by omega);subst e;have ck2:=hzc n Ul;have hst:0<=ss.getD n 0/\ss.getD n 0<(k:Int):=qL.1 HNU.out _ (by rw[List.getD,aB3 (by rw[IE.out];exact Ul)];exact List.getElem_mem _);obtain⟨z,ez⟩:∃ z:Nat,ss.getD n 0=(z:Int):=⟨(ss.getD n 0).toNat,(Int.toNat_of_nonneg hst.1).symm⟩;rw[ez]at ck2 hst;have HZ:Hid ((ss.getD n 0).toNat=z):=hid (by rw[ez];rfl);have hzk:z<k:=by omega
       clear ez hst hzc;have j1:(0:Int)<=(n:Int):=by omega
       have j2:(n:Int)<(l3:Int):=by omega
       go_wp2_with fail
       go_loopw [27] (λi r=>∃ o:Nat,o<=vs.length/\i=.int .i64 o/\Hid (∀ j,j<o->¬ (aX vs j (ns.length - 1)=false/\good (z*vs.length+j)=true))/\w6=r) (λi _=>vs.length - (intOf i).toNat)
       case atStart=>exact⟨0,aCg _,rfl,hid (λj h=>by omega),rfl⟩
       case round=>
        obtain⟨o,af5,rfl,HA1,e⟩:=hrel;subst e;by_cases vD:o<vs.length
        ·have c6:=H6.out.cell o vD;have hzl:z*vs.length+o<k*vs.length:=xh hzk vD;have c5:=H5.out (z*vs.length+o) hzl;have hzM:z*vs.length<=6*256:=Nat.mul_le_mul (by omega) hM;have wm:IntKind.i64.wrap ((z:Int)*(vs.length:Int))=((z*vs.length:Nat):Int):=by
          rw[IntKind.wrap_i64,<-Int.natCast_mul];omega
         have rZ:Hid (((aX vs o (ns.length - 1)==false)&&good (z*vs.length+o))=false->∀ j,j<o+1->¬ (aX vs j (ns.length - 1)=false/\good (z*vs.length+j)=true)):=hid (λe j hj=>by
          by_cases c:j=o
          ·subst c;rintro ⟨h1,h2⟩;rw[h1,h2]at e;simp at e
          ·exact HA1.out j (by omega))
         have HY:Hid (((aX vs o (ns.length - 1)==false)&&good (z*vs.length+o))=true->¬ rP ns zs.length (dJ zs) (eT aj) (wB ss)):=hid (λe=>by
          rw[aCH,beq_iff_eq]at e;exact aom.out.1 ⟨n,Ul,o,vD,e.1,by rw[HZ.out];exact e.2⟩)
         have auP:=HA1;clear HA1 auP;generalize hgv:good (z*vs.length+o)=gv at *;clear hgv;generalize z*vs.length=pz at *;have wa:IntKind.i64.wrap ((pz:Int)+(o:Int))=(pz:Int)+(o:Int):=by rw[IntKind.wrap_i64];omega
         have e5:((pz:Int)+(o:Int)).toNat=pz+o:=by omega
         generalize hNE:k*vs.length=N at *;have u1:(0:Int)<=(pz:Int)+(o:Int):=by omega
         have u2:(pz:Int)+(o:Int)<(N:Int):=by omega
         generalize (aX vs o (ns.length - 1)==false)=fv at *;cases fv with
         | false=>
          go_wp2_with fail;go_roundw
          case rel=>exact⟨o+1,by omega,by go_num,hid (rZ.out rfl),trivial⟩
          case measure=>simp[intOf];omega
         | true=>
          cases gv with
          | false=>
           go_wp2_with fail;go_roundw
           case rel=>exact⟨o+1,by omega,by go_num,hid (rZ.out rfl),trivial⟩
           case measure=>simp[intOf];omega
          | true=>
           have HYY:=hid (HY.out rfl);go_wp2_with fail
           go_ret2
           exact KOK.out _ HBE.out false ⟨λh=>(by cases h),λh=>absurd h HYY.out⟩
        ·obtain rfl:o=vs.length:=by omega
         have YQ:Hid (∀ j,j<n+1->¬ ∃ i,i<vs.length/\aX vs i (ns.length - 1)=false/\good ((ss.getD j 0).toNat*vs.length+i)=true):=hid (λj hj=>by
          by_cases c:j=n
          ·subst c;rw[HZ.out];rintro ⟨i,h1,h2⟩;exact HA1.out i h1 h2
          ·exact HA.out j (by omega))
         go_wp2_with fail;go_roundw
         case rel=>exact⟨n+1,by omega,by go_num,YQ,trivial⟩
         case measure=>simp[intOf];omega
      ·obtain rfl:n=l3:=by omega
       have HYY:Hid (rP ns zs.length (dJ zs) (eT aj) (wB ss)):=hid (aCx λh=>by
        obtain⟨j,hj,h2⟩:=aom.out.2 h;exact HA.out j hj h2)
       go_wp2_with fail
       go_ret2
       exact KOK.out _ HBE.out true ⟨λ_=>HYY.out,λ_=>rfl⟩
theorem Zx(hm:s.size<=maxLen)(h1:Ints w a1 l1 c1 zs)(h2:Lists w a2 l2 c2 aj)(h3:Ints w a3 l3 c3 ss) :
  Calls Tryz.prog 42 #[.agg #[.slice a1 l1 c1,.slice a2 l2 c2,.slice a3 l3 c3],.string s] w (tZ zs aj ss s w):=by
 by_cases a:bO zs aj ss=false\/(af s).1≠0
 ·exact abz a1 a2 a3 l1 c1 l2 c2 l3 c3 zs aj ss s w hm h1 h2 h3 a
 ·refine Zw a1 a2 a3 l1 c1 l2 c2 l3 c3 zs aj ss s w hm h1 h2 h3 ?_ ?_
  ·cases e:bO zs aj ss with
   | true=>rfl
   | false=>exact absurd (aCa e) a
  ·exact aCx λh=>a (aCb h)
end
theorem Fm.below{w w':World}{F:Nat}{ns:List Nd}{bs:List Nat}(h:Fm w F ns bs)(hb:Below w.heap.size w w'):Fm w' F ns bs:=by
 obtain⟨d,cap,c,own⟩:=h.c0;refine⟨⟨d,cap,(hb.cell (p:=⟨F,0,none⟩) h.uX).trans c,ai own hb⟩,(hb.frozen (p:=⟨F,0,none⟩) h.uX).trans h.f0,h.len,h.wf,λi n f=>?_⟩;obtain⟨b,e,hF,a⟩:=h.parts i n f;exact⟨b,e,hF,(hb.block b (dC a)).trans a⟩
theorem acj{w:World}{b off len cap n:Nat}{zs:List Int}(h:Ints w (some ⟨b,off,none⟩) len cap zs)(hn:n<=len):Ints w (some ⟨b,off,none⟩) n cap (zs.take n):=by
 refine⟨by have:=h.hlen;simp;omega,by have:=h.hcap;omega,h.hmax,λe=>by simp at e,λj=>?_⟩;obtain⟨a,c,e,d,f⟩:=h.hcell (by omega);refine⟨a,c,e,d,λi g=>?_⟩;rw[f i (by omega)];simp[List.getD,g]
theorem ack{w:World}{b off len cap n:Nat}{zs:List Int}(h:Ints w (some ⟨b,off,none⟩) len cap zs)(hn:n<=len):Ints w (some ⟨b,off+n,none⟩) (len - n) (cap - n) (zs.drop n):=by
 refine⟨by have:=h.hlen;simp;omega,by have:=h.hcap;omega,by have:=h.hmax;omega,λe=>by simp at e,λd=>?_⟩;obtain⟨f,g,e,a,c⟩:=h.hcell (by omega);cases e;refine⟨b,off+n,rfl,a,λi j=>?_⟩;rw[Nat.add_assoc,c (n+i) (by omega)];simp[List.getD]
def yL(lt:Nat->Nat)(S:List Nat)(j:Nat):List Nat:=(S.take j).map lt
theorem ZN{lt:Nat->Nat}{S:List Nat}{j:Nat}(h:j<S.length):yL lt S (j+1)=yL lt S j++[lt (S.getD j 0)]:=by
 unfold yL;rw[List.take_succ_eq_append_getElem h,aCM];simp[List.getD,aB3 h]
theorem abT{lt:Nat->Nat}{S:List Nat}:yL lt S S.length=S.map lt:=by simp[yL]
theorem JB{B:Nat}{w w':World}(h:Below B w w'):Below B w w'.drew:=⟨h.os,h.tape,h.output,h.size,h.block⟩
section
variable (a1 a2 a3 a4 a5:Option Addr) (l1 c1 l2 c2 l3 c3 l4 c4 l5 c5:Nat) (zs:List Int) (aj:List (List Int)) (ss:List Int) (SA SB:List Nat) (s:ByteArray) (w:World)
theorem aa9(hm:s.size<=maxLen)(h1:Ints w a1 l1 c1 zs)(h2:Lists w a2 l2 c2 aj)(h3:Ints w a3 l3 c3 ss)(h4:Ints w a4 l4 c4 (iF SA))(h5:Ints w a5 l5 c5 (iF SB))(hG:bO zs aj ss=true)(h:(af s).1=0)
  (hS:sS (af s).2 zs.length (dJ zs) (eT aj) (wB ss) SA SB) :
  Calls Tryz.prog 44 #[.agg #[.slice a1 l1 c1,.slice a2 l2 c2,.slice a3 l3 c3],.string s,.slice a4 l4 c4,.slice a5 l5 c5] w λe w'=>e=.returned (.bool true)/\Below w.heap.size w w':=by
 have F:=(aB4 w.heap.size w).alloc (aB2 _) (.cells #[.slice a1 l1 c1,.slice a2 l2 c2,.slice a3 l3 c3] 25);have T0:=hid (dx w (.slice a1 l1 c1) (.slice a2 l2 c2) (.slice a3 l3 c3) 25);have L1:=h1.hlen;have L2:=h2.hlen;have L3:=h3.hlen;have L4:SA.length=l4:=by rw[<-kP];exact h4.hlen
 have L5:SB.length=l5:=by rw[<-kP];exact h5.hlen
 obtain⟨g1,g6,g21,Yi,g3,gnu⟩:1<=l1/\l1<=6/\l1=l2/\dh zs=true/\l3≠0/\gm l1 ss=true:=by
  have c:=hG;unfold bO at c;rw[L1,L2,L3]at c;simp only[aCH,aCZ]at c;exact⟨c.1.1.1.1.1.1,c.1.1.1.1.1.2,c.1.1.1.1.2.symm,c.1.1.1.2,c.1.1.2,c.1.2⟩
 subst g21;have uO:=hid Yi;have sZ:=hid L1;have iZ:=hid hS;have q1:0<l5:=by have:=JY hS;omega
 have q2:l4+l5<=20000:=by have:=hS.len;omega
 have m1:=h1.hcap;have m2:=h1.hmax;have n1:=h2.hcap;have n2:=h2.hmax;have o1:=h3.hcap;have o2:=h3.hmax;have p4:=h4.hcap;have p4':=h4.hmax;have p5:=h5.hcap;have p5':=h5.hmax;have J1:=hid (h1.below F);have J2:=hid (h2.below F);have J3:=hid (h3.below F);have J4:=hid (h4.below F);have J5:=hid (h5.below F);have iJ:=hid F;have BG:=hid hG;have C:=hid (λW=>fe s W hm);unfold dF at C;have GD:=hid (iM h);have ag1:=hid (aeP (iM h) hS (λi d=>(by
  have c:=Ja Yi (j:=i) d;have B:=ja.1 c;unfold dJ;omega)))
 have auo:=hid (aeO hS);obtain⟨j0,H,hjs⟩:=Zb hS;have HJ0:=hid hjs;rw[L3]at H;have Al:=hid (λi (d:i<(SA++SB).length)=>aiX hS i d);have FC:=hid (λi (d:i<(SA++SB).length)=>aba hS i d);have hAB:(SA++SB).length=l4+l5:=by rw[aCd,L4,L5]
 have o:=hid L4;have I:=hid L5;have J:=hid hAB;have yx:=hid L3;generalize af s=p at *;obtain⟨p1,ns⟩:=p;dsimp only at *;subst h;have o4:∀ u∈cZ SA,u.oneCell'=true:=by rw[<-xm];exact uu _
 have o5:∀ u∈cZ SB,u.oneCell'=true:=by rw[<-xm];exact uu _
 have JL:=hid o4;have Ng:=hid o5;obtain⟨i0,d,aT,aP,aO⟩:=info_parts Tryz.uw;clear h1 h2 h3 h4 h5 F L1 L2 L3 L4 L5 Yi gnu hG hm hS hjs hAB o4 o5;go_enter Tryz.func44,Tryz.ntmps44;go_wp2_with fail;refine(C.out _).mono ?_;rintro e w1 ⟨S,⟨h0,_⟩ | ⟨_,bs,rfl,hf⟩⟩
 ·exact absurd rfl h0
 have T1:=T0.out.below S (by simp);have x0:=T1.c0;have x1:=T1.c1;have x2:=T1.c2;have IG:=hid (BU a1 a2 a3 l1 c1 l1 c2 l3 c3 zs aj ss w1 (J1.out.below S) (J2.out.below S) (J3.out.below S));rw[BG.out]at IG;rw[aB7]at hf;have Ao:=hid hf;have B1:=hid S;have M6:=hid T1;clear C S hf T1 T0;go_wp2_with fail;refine IG.out.mono ?_;rintro e w2 ⟨rfl,b2⟩;have aK:=hid (iJ.out.trans (B1.out.mono iJ.out.size));have IJ:=hid (Ao.out.below b2);have hG1:w.heap.size<w1.heap.size:=M6.out.lt;have T:=hid (M6.out.below b2 hG1);have B2:=hid (B1.out.trans (b2.mono B1.out.size));have U:=hid (iJ.out.trans (B2.out.mono iJ.out.size));have UI:w.heap.size<w2.heap.size:=T.out.lt;have K1:=hid (J1.out.below B2.out);have K2:=hid (J2.out.below B2.out);have K3:=hid (J3.out.below B2.out);have K4:=hid (J4.out.below B2.out);have K5:=hid (J5.out.below B2.out);clear IG b2 Ao M6 B1 aK J1 J2 J3 J4 J5 x0 x1 x2 iJ B2 BG;have e5:((l5:Int)==0)=false:=aCe.2 (by omega);have e6:decide ((20000:Int)<(l4:Int)+(l5:Int))=false:=by simp;omega
 have y0:=T.out.c0;have y1:=T.out.c1;have y2:=T.out.c2;have s4:=K4.out.src;rw[xm]at s4;have N4:=K4.out.hnil;go_wp2_with (at_builtin;go_must (refine nO _ rfl (.tmp 46) (.tmp 47) 22 rfl w2.heap.size 3 i0 (.int .i64 0) 1 8 Tryz.underlying22 d aT aP aO rfl (by decide) _ 0 [] rfl (aCp _ _ _ _) a4 l4 c4 (cZ SA) rfl ?n1 N4 s4 JL.out ?n2 ?n3 (aB2 _) ?_))
 case n1=>simp[cZ,o.out]
 case n2=>unfold maxLen;omega
 case n3=>omega
 intro v1 w3 tO o8
 try simp only[aCw,List.nil_append]at tO
 have aA:Below w2.heap.size w2 w3:=(aB4 _ _).grown o8 (aB2 _) (λk h=>by cases h);have s5:=(K5.out.below aA).src;rw[xm]at s5;have N5:=(K5.out.below aA).hnil;have qQ:=aA.size;have bF:=hid aA;clear aA o8 s4 N4;go_wp2_with (at_builtin;go_must (refine nO _ rfl (.tmp 49) (.tmp 50) 22 rfl w2.heap.size 3 i0 (.int .i64 0) 1 8 Tryz.underlying22 d aT aP aO rfl (by decide) _ l4 (cZ SA) rfl tO a5 l5 c5 (cZ SB) rfl ?n4 N5 s5 Ng.out ?n5 ?n6 qQ ?_))
 case n4=>simp[cZ,I.out]
 case n5=>unfold maxLen;omega
 case n6=>omega
 intro v2 w4 K ahU;have e1:cZ SA++cZ SB=cZ (SA++SB):=by simp[cZ]
 rw[e1]at K;have D:=hid (bF.out.grown ahU qQ (λk h=>(tO.lt k h).1));obtain⟨ao,cap,rfl,V⟩:=DU K J.out;obtain⟨q,E,rfl,hgP,hcP⟩:=V.hcell (by omega);have HI:=hid V;have L:=hid (λi (d:i<l4+l5)=>(by
  have c:=hcP i d;have B:(iF (SA++SB)).getD i 0=(((SA++SB).getD i 0:Nat):Int):=by
   have hl9:i<(SA++SB).length:=by rw[J.out];exact d
   unfold iF;rw[List.getD,List.getD,aCs,aB3 hl9];rfl
  rw[B]at c;exact c:w4.cell? ⟨q,E+i,none⟩=some (.int .i64 (((SA++SB).getD i 0:Nat):Int))))
 have cm:=V.hcap;have cm':=V.hmax;have NB:=hid (zH (some ⟨q,E,none⟩) (l4+l5) cap l1 (iF (SA++SB)) w4 V);rw[show iF (SA++SB)=(SA++SB).map λ(p:Nat)=>(p:Int) from rfl,show l1=zs.length from sZ.out.symm,auo.out,show zs.length=l1 from sZ.out]at NB;have QP:=hid (T.out.below D.out UI);have z0:=QP.out.c0;have z1:=QP.out.c1;have z2:=QP.out.c2;have K14:=hid (K1.out.below D.out);have K24:=hid (K2.out.below D.out);have K34:=hid (K3.out.below D.out);have K54:=hid (K5.out.below D.out);have Q4:=hid (IJ.out.below D.out);have HBA:=hid (U.out.trans (D.out.mono (by omega)));have r:w.heap.size<w4.heap.size:=QP.out.lt;clear tO K ahU s5 N5 V hcP e1 K1 K2 K3 K4 K5 IJ T U bF D y0 y1 y2 qQ;go_wp2_with fail;refine NB.out.mono ?_;rintro e w5 ⟨rfl,rfl⟩;clear NB;go_wp2_with fail;have P0:=L.out 0 (by omega);rw[Nat.add_zero]at P0;rw[show ((SA++SB).getD 0 0:Nat)=(SA++SB).getD 0 0 from rfl]at P0;obtain⟨bS,oS,eS,hbS,hcS⟩:=K34.out.hcell (by omega);subst eS;have HCS:=hid hcS;clear hcS;have HV0:=hid (rfl:(SA++SB).getD 0 0=(SA++SB).getD 0 0)
 go_loopw [14,15] (λb i wq=>∃ (k:Nat) (bv:Bool),k<=l3/\i=.int .i64 k/\b=.bool bv/\Hid (Below w5.heap.size w5 wq)/\Hid (j0<k->bv=true)) (λ_ i _=>l3 - (intOf i).toNat)
 case atStart=>exact⟨0,false,aCg _,rfl,rfl,hid (aB4 _ _),hid (λh=>by omega)⟩
 case round=>
  obtain⟨k,bv,hk,rfl,rfl,a,HK⟩:=hrel;rename World=>W0;have z2':=(a.out.cell (p:=⟨w.heap.size,2,none⟩) r).trans z2;have P0':=(a.out.cell (p:=⟨q,E,none⟩) hgP).trans P0;by_cases f:k<l3
  ·have ck:=(a.out.cell (p:=⟨bS,oS+k,none⟩) hbS).trans (HCS.out k f);have HJK:Hid (j0=k->ss.getD k 0=(((SA++SB).getD 0 0:Nat):Int)):=hid (λe=>by rw[<-e];exact HJ0.out);have i1:(0:Int)<=(k:Int):=by omega
   have i2:(k:Int)<(l3:Int):=by omega
   have i3:(0:Int)<(l4:Int)+(l5:Int):=by omega
   generalize ss.getD k 0=z at *;cases bv with
   | true=>
    go_wp2_with fail
    go_quiet (fail)
    have U:=hid (aCl a.out nq);go_wp2_with fail;go_roundw
    case rel=>exact⟨k+1,true,by omega,by go_num,rfl,U,hid (λ_=>rfl)⟩
    case measure=>simp[intOf];omega
   | false=>
    generalize (SA++SB).getD 0 0=v0 at *;have HKK:Hid (j0<k+1->(z==(v0:Int))=true):=hid (λh=>by
     by_cases e:j0=k
     ·rw[HJK.out e];simp
     ·exact absurd (HK.out (by omega)) (by simp))
    go_wp2_with fail
    go_quiet (fail)
    have U:=hid (aCl a.out nq);go_wp2_with fail;go_roundw
    case rel=>exact⟨k+1,(z==(v0:Int)),by omega,by go_num,rfl,U,HKK⟩
    case measure=>simp[intOf];omega
  ·obtain rfl:l3=k:=by omega
   obtain rfl:bv=true:=HK.out H;have x0:=(a.out.cell (p:=⟨w.heap.size,0,none⟩) r).trans z0;have x1:=(a.out.cell (p:=⟨w.heap.size,1,none⟩) r).trans z1;have x2:=(a.out.cell (p:=⟨w.heap.size,2,none⟩) r).trans z2;have PZ:=a.out.size;have A:w.heap.size<W0.heap.size:=by omega
   have M:q<W0.heap.size:=by omega
   have M2:=hid (K24.out.below a.out);have N:=hid (λi (d:i<l4+l5)=>(a.out.cell (p:=⟨q,E+i,none⟩) hgP).trans (L.out i d));obtain⟨bB,oB,eB,hbB,hcB⟩:=K54.out.hcell q1;subst eB;have cB:=(a.out.cell (p:=⟨bB,oB+0,none⟩) hbB).trans (hcB 0 q1);rw[Nat.add_zero,show (iF SB).getD 0 0=((SB.headD 0:Nat):Int) by
    cases SB with
    | nil=>rfl
    | cons y ys=>rfl]at cB
   have atE:bB<W0.heap.size:=by omega
   obtain⟨O,X,eL,hbL,P⟩:=K14.out.hcell (by omega);subst eL;have amk:O<W0.heap.size:=by omega
   have rY:=hid (λi (d:i<l1)=>(by
    have c:=(a.out.cell (p:=⟨O,X+i,none⟩) hbL).trans (P i d);have B:=ja.1 (Ja uO.out (j:=i) (by rw[sZ.out];exact d));unfold dJ;rw[Int.toNat_of_nonneg B.1];exact c:W0.cell? ⟨O,X+i,none⟩=some (.int .i64 ((dJ zs i:Nat):Int))))
   have V8:=hid (Q4.out.below a.out);have fH:=hid (HBA.out.trans (a.out.mono (by omega)));clear hcB P K14 K24 K34 K54 HCS L Q4 HBA HK a z0 z1 z2 z2' P0 P0' HJ0 HV0 f hk H;generalize hGG:w.heap.size=G at *;go_wp2_with fail
   go_loopw [16,17] (λv i wq=>∃ (k:Nat) (vL:Value),k<=l4+l5/\vL=v/\i=.int .i64 k/\Hid (wq.ownsRow W0.heap.size 3 1 v k (cZ (yL (dJ zs) (SA++SB) k)))/\Hid (Below W0.heap.size W0 wq)) (λ_ i _=>l4+l5 - (intOf i).toNat)
   case atStart=>exact⟨0,_,aCg _,rfl,rfl,hid (aCp _ _ _ _),hid (aB4 _ _)⟩
   case round=>
    obtain⟨k,vL,hk,rfl,rfl,HO,a⟩:=hrel;rename World=>W1;have hs1:=a.out.size;by_cases f:k<l4+l5
    ·have x0':=(a.out.cell (p:=⟨G,0,none⟩) A).trans x0;have Ji:=(a.out.cell (p:=⟨G,1,none⟩) A).trans x1;have KR:=(a.out.cell (p:=⟨G,2,none⟩) A).trans x2;have cB':=(a.out.cell (p:=⟨bB,oB,none⟩) atE).trans cB;have ck:=(a.out.cell (p:=⟨q,E+k,none⟩) M).trans (N.out k f);have Q:k<(SA++SB).length:=by rw[J.out];exact f
     have g:=Al.out k Q;rw[sZ.out]at g;have hE:=FC.out k Q;rw[J.out]at hE;have Na:=hid (ZN (lt:=dJ zs) Q);have cL:=(a.out.cell (p:=⟨O,X+(SA++SB).getD k 0,none⟩) amk).trans (rY.out _ g);have auJ:Hid (k+1<l4+l5->W1.cell? ⟨q,E+(k+1),none⟩=some (.int .i64 (((SA++SB).getD (k+1) 0:Nat):Int))):=hid (λh=>(a.out.cell (p:=⟨q,E+(k+1),none⟩) M).trans (N.out (k+1) h));generalize hxx:(SA++SB).getD k 0=x at *;generalize gD:dJ zs x=lx at *;have HXX:=hid hxx;have HLX:=hid gD;clear hxx gD;have i1:(0:Int)<=(k:Int):=by omega
     have i2:(k:Int)<(l4:Int)+(l5:Int):=by omega
     have i3:(0:Int)<(l5:Int):=by omega
     have i4:(0:Int)<=(x:Int):=by omega
     have i5:(x:Int)<(l1:Int):=by omega
     by_cases hn:k+1<l4+l5
     focus
      rw[aC2 hn]at hE;have ck2:=auJ.out hn;generalize (SA++SB).getD (k+1) 0=y at *;have RE:=hid (FX (some ⟨O,X,none⟩) a2 (some ⟨bS,oS,none⟩) l1 c1 l1 c2 l3 c3 aj W1.drew x y (M2.out.below (JB a.out)) g);rw[hE]at RE;have j1:(0:Int)<=(k:Int)+1:=by omega
      have j2:(k:Int)+1<(l4:Int)+(l5:Int):=by omega
     rotate_left
     focus
      rw[aC1 hn]at hE;generalize SB.headD 0=y at *;have RE:=hid (FX (some ⟨O,X,none⟩) a2 (some ⟨bS,oS,none⟩) l1 c1 l1 c2 l3 c3 aj W1.drew x y (M2.out.below (JB a.out)) g);rw[hE]at RE;have j2:decide ((k:Int)+1<(l4:Int)+(l5:Int))=false:=by simp;omega
     all_goals
      go_wp2_with fail
      go_region_with (go_at_call 82;go_must (refine RE.out.mono ?_;rintro e w7 ⟨rfl,b7⟩))
      all_goals
       have qW:=Ag b7;have Y:=hid (a.out.trans (qW.mono hs1));have ZE:=ai HO.out qW;have HO7:=hid ZE;have ay6:=(Y.out.cell (p:=⟨G,0,none⟩) A).trans x0;have atP:=(Y.out.cell (p:=⟨q,E+k,none⟩) M).trans (N.out k f);rw[show (SA++SB).getD k 0=x from HXX.out]at atP;have atT:=(Y.out.cell (p:=⟨O,X+x,none⟩) amk).trans (rY.out x g);rw[HLX.out]at atT;have uz:=Y.out.size;clear b7 qW x0' Ji KR cB' ck cL HO;go_wp2_with fail
       go_region_law ((refine aCV _ (by rfl) (.tmp 108) (.tmp 117) 22 (by rfl) W0.heap.size 3 i0 (.int .i64 0) 1 8 Tryz.underlying22 d aT aP aO rfl (by decide) vL k (cZ (yL (dJ zs) (SA++SB) k)) (by rfl) (ZE.alloc _).drew ⟨w7.heap.size,0,none⟩ 1 1 [.int .i64 lx] (by rfl) (by rfl) (World.news_of_block (cs:=#[.int .i64 lx]) (t:=3) (fr:=(0,0)) (heap_alloc_last w7 _)) (by simp[Value.oneCell']) (by decide) (by unfold maxLen;omega) (by omega) (by simp;omega) _ rfl ?_;intro gg cc w8 l m hat gN))
       all_goals
        have bw8:Below W0.heap.size w7 w8:=(aCl ((aB4 W0.heap.size w7).alloc uz (.cells #[.int .i64 lx] 3)) 1).grown m (by show W0.heap.size<=(w7.alloc (.cells #[.int .i64 lx] 3)).heap.size;rw[aB7];omega) (λk h=>(ZE.lt k h).1);have e1:cZ (yL (dJ zs) (SA++SB) k)++[.int .i64 (lx:Nat)]=cZ (yL (dJ zs) (SA++SB) (k+1)):=by rw[Na.out];simp[cZ]
        rw[e1]at l;have HO8:=hid l;have IM:=hid (Y.out.trans bw8);clear l m hat bw8 ZE Y HO7 e1;go_wp2_with fail;go_roundw
        case rel=>exact⟨k+1,_,by omega,rfl,by go_num,HO8,IM⟩
        case measure=>simp[intOf];omega
    ·obtain rfl:k=l4+l5:=by omega
     have R:=HO.out;rw[<-J.out,abT,J.out,aCM]at R;obtain⟨ao,Z,rfl,Yb⟩:=DU R (by rw[<-aCM,aCO,J.out]);obtain⟨gR,oR,rfl,P8,_⟩:=Yb.hcell (by omega);have P:=Yb.hcap;have azz:=Yb.hmax;have IA:=acj Yb (n:=l4) (by omega);have IB:=ack Yb (n:=l4) (by omega);rw[Eb,List.take_left' (by rw[kP,aCO,o.out])]at IA;rw[Eb,List.drop_left' (by rw[kP,aCO,o.out]),show l4+l5 - l4=l5 by omega]at IB;have B:∀ x∈SA++SB,dJ zs x<8:=λx g=>by
      have hx2:=iZ.out.lt_ x g;have c:=ja.1 (Ja uO.out (j:=x) hx2);unfold dJ;omega
     have OF:=hid (XD (G+1) ns bs (some ⟨gR,oR,none⟩) (some ⟨gR,oR+l4,none⟩) l4 Z l5 (Z - l4) (iF (SA.map (dJ zs))) (iF (SB.map (dJ zs))) W1.drew ((V8.out.below a.out).drew) GD.out
      ⟨by rw[kP,aCO,I.out];exact q1,by rw[kP,kP,aCO,aCO,o.out,I.out];exact q2,
       QK (λx g=>by obtain⟨y,hy,rfl⟩:=aCU.1 g;exact B y (List.mem_append_left _ hy)),
       QK (λx g=>by obtain⟨y,hy,rfl⟩:=aCU.1 g;exact B y (List.mem_append_right _ hy))⟩ IA.drew IB.drew)
     unfold xP at OF;rw[<-Eb,ZL,kP,aCO,<-aCM,ag1.out]at OF;have yC:=hid (fH.out.trans (a.out.mono (by omega)));have j1:(0:Int)<=(l4:Int):=by omega
     have j2:(l4:Int)<=(Z:Int):=by omega
     have j3:(l4:Int)<=(l4:Int)+(l5:Int):=by omega
     have j4:(l4:Int)+(l5:Int)<=(Z:Int):=by omega
     have j5:¬ Z=l4:=by omega
     have j6:l4<Z:=by omega
     have jT:G<=W1.heap.size:=by omega
     clear R Yb IA IB B HO a V8;go_wp2_with fail
     go_region_with (go_at_call 85;go_must (refine OF.out.mono ?_;rintro e w9 ⟨rfl,b9⟩))
     all_goals
      have Q5:=hid (yC.out.trans ((Ag b9).mono jT));clear b9;go_wp2_with fail;go_ret;exact⟨rfl,by rw[hGG];exact Q5.out⟩
end
theorem Mj{E:Nat->Nat->Prop}:∀ {l m:List Nat} {e:Nat},Goes E (l++m) e->Goes E l (m.headD e)/\Goes E m e
 | [],m,e,h=>⟨trivial,h⟩
 | a::l,m,e,⟨h1,h2⟩=>by
  obtain⟨h3,h4⟩:=Mj h2;refine⟨⟨?_,h3⟩,h4⟩;have h5:E a ((l++m).headD e):=h1;rw[uA]at h5;exact h5
theorem age{n:Nat}{ed:Nat->Nat->Bool}{st:Nat->Bool}{SA SB:List Nat}(ne:SB≠[])(hlt:∀ p∈SA++SB,p<n)(UC:st ((SA++SB).headD 0)=true)(hgo:Goes (λa b=>ed a b=true) (SA++SB) (SB.headD 0)):RH n ed st (rowAt SA SB):=by
 have e:0<SB.length:=List.length_pos_iff.2 ne;obtain⟨f,g⟩:=Mj hgo;have h:SB.headD (SB.headD 0)=SB.headD 0:=by cases SB with
  | nil=>rfl
  | cons b l=>rfl
 rw[h]at f;have i:=(Li (cs:=[]) f ⟨ne,rfl,g,λc j=>by cases j⟩).1;have d:∀ t,rowAt SA SB t∈SA++SB:=λt=>by
  unfold rowAt;by_cases c:t<SA.length
  ·rw[aC2 c,List.getD,aB3 c];exact List.mem_append_left _ (List.getElem_mem c)
  ·have c2:(t - SA.length) % SB.length<SB.length:=Nat.mod_lt _ e;rw[aC1 c,List.getD,aB3 c2];exact List.mem_append_right _ (List.getElem_mem c2)
 have k:rowAt SA SB 0=(SA++SB).headD 0:=by
  unfold rowAt;cases SA with
  | nil=>
   cases SB with
   | nil=>simp at e
   | cons b B=>simp
  | cons a A=>simp
 exact⟨by rw[k];exact UC,λt=>⟨hlt _ (d t),i t⟩⟩
theorem afb{lt:Nat->Nat}{SA SB:List Nat}(hb:0<SB.length):(λt=>lt (rowAt SA SB t))=sD (SA.map lt) (SB.map lt):=by
 funext i;unfold sD rowAt;simp only[aCO];by_cases c:i<SA.length
 ·rw[aC2 c,aC2 c];simp[List.getD,aB3 c]
 ·rw[aC1 c,aC1 c];have c2:(i - SA.length) % SB.length<SB.length:=Nat.mod_lt _ hb;simp[List.getD,aB3 c2]
theorem aa8{ns:List Nd}{n:Nat}{lt:Nat->Nat}{ed:Nat->Nat->Bool}{st:Nat->Bool}{SA SB:List Nat}(h:sS ns n lt ed st SA SB):¬ rP ns n lt ed st:=λhh=>by
 have:=hh _ (age h.ne h.lt_ h.begins h.go);rw[afb (JY h)]at this;exact h.akI this
