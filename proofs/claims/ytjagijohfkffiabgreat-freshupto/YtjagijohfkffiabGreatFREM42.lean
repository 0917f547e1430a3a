import Derived.Test.YtjagijohfkffiabGreatFREM41
set_option maxHeartbeats 16000000
set_option maxRecDepth 100000
set_option linter.unusedSimpArgs false
namespace Go.Proofs.YtjagijohfkffiabGreat
open Go.RowKit
set_option linter.unusedVariables false
def KM(ns:List Nd)(vs:List Nat)(lt:Nat->Nat)(ed:Nat->Nat->Bool)(k i y pr j:Nat):List Nat:=mX ns vs lt ed k i y++((toS ns vs i).take j).map (λq=>pr+q)
theorem aeP{ss:List Int}{n:Nat}(hn:fI n ss=true){P:Nat->Prop}:(∃ k,k<n/\tT ss k=true/\P k)↔∃ j,j<ss.length/\P ((ss.getD j 0).toNat):=by
 constructor
 ·rintro ⟨k,hk,hs,hp⟩;obtain⟨j,hj,e⟩:=aBC (xH.1 hs);refine⟨j,hj,?_⟩;rw[List.getD,aAV hj,e];exact hp
 ·rintro ⟨j,hj,hp⟩;have hm:ss.getD j 0∈ss:=by rw[List.getD,aAV hj];exact List.getElem_mem _
  obtain⟨h1,h2⟩:=oN.1 hn _ hm;refine⟨(ss.getD j 0).toNat,by omega,?_,hp⟩;refine xH.2 ?_;rw[Int.toNat_of_nonneg h1];exact hm
theorem G8{u:List Int}(hu:iT u=true){j:Nat}(hj:j<u.length):ry (u.getD j 0)=true:=by
 unfold iT at hu;rw[List.all_eq_true]at hu;refine hu _ ?_;rw[List.getD,aAV hj];exact List.getElem_mem _
def qP(zs:List Int)(ag:List (List Int))(ss:List Int)(s:ByteArray)(w:World)(e:Ending)(w':World):Prop:=
 ∃ (y:Bool) (er:Nat),e=.returned (.tuple #[.bool y,.int .i64 (er:Nat)])/\Below w.heap.size w w' /\
  (bM zs ag ss=false->er=10/\y=false) /\
  (bM zs ag ss=true->(aB s).1≠0->er=(aB s).1/\y=false) /\
  (bM zs ag ss=true->(aB s).1=0->er=0/\(y=true↔pV (aB s).2 zs.length (dA zs) (eF ag) (tT ss)))
theorem adv{zs:List Int}{ag:List (List Int)}{ss:List Int}{s:ByteArray}{w w':World}(hg:bM zs ag ss=false)(hb:Below w.heap.size w w'):qP zs ag ss s w (.returned (.tuple #[.bool false,.int .i64 10])) w':=
 ⟨false,10,rfl,hb,λ_=>⟨rfl,rfl⟩,λh=>absurd (hg.symm.trans h) (by simp),λh=>absurd (hg.symm.trans h) (by simp)⟩
theorem adw{zs:List Int}{ag:List (List Int)}{ss:List Int}{s:ByteArray}{w w':World}(hg:bM zs ag ss=true)(hp:(aB s).1≠0)(hb:Below w.heap.size w w'):qP zs ag ss s w (.returned (.tuple #[.bool false,.int .i64 ((aB s).1:Nat)])) w':=
 ⟨false,_,rfl,hb,λh=>absurd (hg.symm.trans h) (by simp),λ_ _=>⟨rfl,rfl⟩,λ_ h=>absurd h hp⟩
theorem ahO{zs:List Int}{ag:List (List Int)}{ss:List Int}{s:ByteArray}{w w':World}(hg:bM zs ag ss=true)(hp:(aB s).1=0)(hb:Below w.heap.size w w')(y:Bool)(hy:y=true↔pV (aB s).2 zs.length (dA zs) (eF ag) (tT ss)):qP zs ag ss s w (.returned (.tuple #[.bool y,.int .i64 0])) w':=
 ⟨y,0,rfl,hb,λh=>absurd (hg.symm.trans h) (by simp),λ_ h=>absurd hp h,λ_ _=>⟨rfl,hy⟩⟩
section
variable (a1 a2 a3:Option Addr) (l1 c1 l2 c2 l3 c3:Nat) (zs:List Int) (ag:List (List Int)) (ss:List Int) (s:ByteArray) (w:World)
theorem ZU(hm:s.size<=maxLen)(h1:Ints w a1 l1 c1 zs)(h2:Lists w a2 l2 c2 ag)(h3:Ints w a3 l3 c3 ss)(hc:bM zs ag ss=false\/(aB s).1≠0) :
  Calls Tryz.prog 42 #[.agg #[.slice a1 l1 c1,.slice a2 l2 c2,.slice a3 l3 c3],.string s] w (qP zs ag ss s w):=by
 have ba:=(aAW w.heap.size w).alloc (aAU _) (.cells #[.slice a1 l1 c1,.slice a2 l2 c2,.slice a3 l3 c3] 25);have IG:=hid (Ak a1 a2 a3 l1 c1 l2 c2 l3 c3 zs ag ss _ (h1.below ba) (h2.below ba) (h3.below ba));have iQ:=hid ba;have C:=hid (λW=>nA s W hm);unfold fK at C;have HC:=hid hc;have K10:=hid (λw'=>@adv zs ag ss s w w');have KER:=hid (λw'=>@adw zs ag ss s w w');clear h1 h2 h3 ba hc;generalize bM zs ag ss=gb at *;generalize aB s=p at *;go_enter Tryz.func42,Tryz.ntmps42;go_wp2_with fail;refine IG.out.mono ?_;rintro e w1 ⟨rfl,b1⟩;simp only[aAZ]at b1;have aK:=hid (iQ.out.trans (b1.mono (by omega)));clear IG iQ b1;cases gb with
 | false=>
  go_wp2_with fail
  go_ret2
  exact K10.out _ (by first | rfl | trivial) aK.out
 | true=>
  have hne:p.1≠0:=by
   rcases HC.out with h | h
   ·cases h
   ·exact h
  have k:((p.1:Int) !=0)=true:=by rw[bne_iff_ne];omega
  go_wp2_with fail;refine(C.out _).mono ?_;rintro e w2 ⟨b2,⟨_,rfl⟩ | ⟨h0,_⟩⟩
  ·have aW:=hid (aK.out.trans (b2.mono aK.out.size));clear C b2;go_wp2_with fail
   go_ret2
   exact KER.out _ (by first | rfl | trivial) hne aW.out
  ·exact absurd h0 hne
theorem XV(hm:s.size<=maxLen)(h1:Ints w a1 l1 c1 zs)(h2:Lists w a2 l2 c2 ag)(h3:Ints w a3 l3 c3 ss)(hG:bM zs ag ss=true)(h:(aB s).1=0) :
  Calls Tryz.prog 42 #[.agg #[.slice a1 l1 c1,.slice a2 l2 c2,.slice a3 l3 c3],.string s] w (qP zs ag ss s w):=by
 have ba:=(aAW w.heap.size w).alloc (aAU _) (.cells #[.slice a1 l1 c1,.slice a2 l2 c2,.slice a3 l3 c3] 25);have T0:=hid (dH w (.slice a1 l1 c1) (.slice a2 l2 c2) (.slice a3 l3 c3) 25);have IG:=hid (Ak a1 a2 a3 l1 c1 l2 c2 l3 c3 zs ag ss _ (h1.below ba) (h2.below ba) (h3.below ba));have L1:=h1.hlen;have L2:=h2.hlen;have L3:=h3.hlen;obtain⟨g1,g6,g21,Ww,g3,gnu⟩:1<=l1/\l1<=6/\l1=l2/\iT zs=true/\l3≠0/\fI l1 ss=true:=by
  have h9:=hG;unfold bM at h9;rw[L1,L2,L3]at h9;simp only[aBz,aBR]at h9;exact⟨h9.1.1.1.1.1.1,h9.1.1.1.1.1.2,h9.1.1.1.1.2.symm,h9.1.1.1.2,h9.1.1.2,h9.1.2⟩
 subst g21;have Ei:=hid Ww;have HNU:=hid gnu;have qw:=hid L1;have Uv:=hid L3;have m1:=h1.hcap;have m2:=h1.hmax;have n1:=h2.hcap;have n2:=h2.hmax;have o1:=h3.hcap;have o2:=h3.hmax;have iQ:=hid ba;have J1:=hid (h1.below ba);have J2:=hid (h2.below ba);have J3:=hid (h3.below ba);rw[hG]at IG;have C:=hid (λW=>nA s W hm);unfold fK at C;have GD:=hid (pF h);have KOK:=hid (λw'=>@ahO zs ag ss s w w' hG h);generalize aB s=p at *;obtain⟨p1,ns⟩:=p;dsimp only at *;subst h;clear h1 h2 h3 ba L1 L2 L3 Ww gnu hG hm;go_enter Tryz.func42,Tryz.ntmps42;go_wp2_with fail;refine IG.out.mono ?_;rintro e w1 ⟨rfl,b1⟩;have B1:=hid b1;clear IG b1;go_wp2_with fail;refine(C.out _).mono ?_;rintro e w2 ⟨b2,⟨h0,_⟩ | ⟨_,bs,rfl,hf⟩⟩
 ·exact absurd rfl h0
 have B2:=hid (B1.out.trans (b2.mono B1.out.size));obtain⟨gp,cap,Kr⟩:=agd hf GD.out.pos;have RW:=hid (QN _ gp cap ns bs w2 Kr GD.out);clear C b2 hf Kr B1;generalize w1.heap.size=F at *;go_wp2_with fail;refine RW.out.mono ?_;rintro e w3 ⟨R,vs,rfl,h,Wp,hM,aI⟩;have B3:=hid (B2.out.trans (aI.mono B2.out.size));have Ab:=hid (iQ.out.trans (B3.out.mono iQ.out.size));have I1:=J1.out.below B3.out;have I2:=hid (J2.out.below B3.out);have I3:=hid (J3.out.below B3.out);have T3:=T0.out.below B3.out (by simp);have Ot:w.heap.size<w3.heap.size:=by
  have:=B3.out.size;simp only[aAZ]at this;omega
 have x0:=T3.c0;have x1:=T3.c1;have x2:=T3.c2;have as1:=hid Wp;have hM0:=adQ GD.out Wp;obtain⟨gl,ol,e,kz,hlc⟩:=I1.hcell (by omega);subst e;have yK:=hid (λk (hk:k<l1)=>(by
  have h9:=G8 Ei.out (j:=k) (by rw[qw.out];exact hk);have h8:=l9.1 h9;exact⟨by unfold dA;omega,by
   have h7:=hlc k hk;unfold dA;rw[Int.toNat_of_nonneg h8.1];exact h7⟩:dA zs k<8/\w3.cell? ⟨gl,ol+k,none⟩=some (.int .i64 ((dA zs k:Nat):Int))))
 clear RW aI B2 B3 iQ J1 J2 J3 T0 T3 I1 hlc Wp;obtain⟨v1,ca1,Gd,ays,rfl,hsc,hrow⟩:=h.c1;obtain⟨v2,ca2,mH,p9,rfl,htc,Rx⟩:=h.c2;obtain⟨gs,rfl,nV,zt⟩:=hrow hM0;obtain⟨gt,rfl,hgt,Ry⟩:=Rx hM0;have hR:=h.lt;have r0:=h.c0;have dw:=GD.out.le;have Pz:=hid h;have agF:=hid zt;have asF:=hid Ry;have UC:=hid (λW P' (hn:pq W P' (l1*vs.length) (rC ns vs (dA zs) (eF ag) l1) ns.length (zm ns vs))=>Ig Qx P' _ ns.length _ _ W hn (Nat.mul_pos (by omega) hM0) (λa ha b hb=>VJ (WF ns vs (dA zs) (eF ag) (λi hi=>(yK.out i hi).1)) ha hb)
   (λa ha=>aBO (yG ns vs _ _ _ _ l1) (aBO (Nat.mul_le_mul g6 hM) (by omega))) (λa ha j=>aBO (KJ ns vs _ _ _ _ j l1) (by omega)) (aBO (Nat.mul_le_mul g6 hM) (by omega)) (by omega))
 obtain⟨i0,hi,aR,aP,aN⟩:=info_parts Tryz.lW;obtain⟨i1,iC,fe,eZ,eY⟩:=info_parts Tryz.ym;obtain⟨i2b,zA,aea,ad8,ad6⟩:=info_parts Tryz.eD;obtain⟨i3,hi3,ad9,ad7,ad5⟩:=info_parts Tryz.EP;have RD:=hid (λ(W:World) (b:Nat) (S:Nat->Bool) (a:Nat) (ha:a<8) (h1:Below w3.heap.size w3 W) (h2:Rb W b ns.length S)=>IV F gp cap b ns.length ns bs S W a ha (h.fr.below h1) h2 GD.out (aAU _));have KD:=hid (λ(W:World) (b:Nat) (S:Nat->Bool) (p:Nat) (hp:p<ns.length) (h1:Below w3.heap.size w3 W) (h2:Rb W b ns.length S)=>Rp F gp cap b ns.length ns bs S W p hp (h.fr.below h1) h2 GD.out (aAU _));have WH:=hid (λ(W:World) (h1:Below w3.heap.size w3 W)=>Za R F gp cap ns bs vs false W (h.below h1) GD.out hM);have RO:=g6;clear h zt Ry hrow Rx;generalize hGG:w.heap.size=G at *;go_wp2_with fail;have ba:=hid ((aAW w3.heap.size w3).alloc (aAU _) (.cells #[.slice none 0 0,.slice none 0 0] 140));have T1:=hid (dD w3 (.slice none 0 0) (.slice none 0 0) 140)
 go_loopw [12] (λi wq=>∃ (k:Nat) (vT:Value) (V:Nat->Value),k<=l1/\i=.int .i64 k/\Hid (Two wq w3.heap.size vT (.slice none 0 0))/\Hid (iE wq (w3.heap.size+1) 22 3 vT (k*vs.length) V (λq=>aD (rC ns vs (dA zs) (eF ag) l1 q)))/\Hid (Below w3.heap.size w3 wq)/\w3.heap.size+1<=wq.heap.size) (λi _=>l1 - (intOf i).toNat)
 case atStart=>exact⟨0,_,λ_=>.slice none 0 0,aA8 _,rfl,T1,by rw[Nat.zero_mul];exact hid (xz _ _ _ _ _ _),ba,by simp⟩
 case round=>
  obtain⟨k,vT,V,hk,rfl,HT,HV,HB,hsz⟩:=hrel;rename World=>W0;clear ba T1;have Wy:=(HB.out.cell (p:=⟨G,0,none⟩) Ot).trans x0;by_cases hlk:k<l1
  ·go_wp2_with fail
   go_loopw [13] (λi wq=>∃ (i':Nat) (vT:Value) (V:Nat->Value),i'<=vs.length/\i=.int .i64 i'/\Hid (Two wq w3.heap.size vT (.slice none 0 0))/\Hid (iE wq (w3.heap.size+1) 22 3 vT (k*vs.length+i') V (λq=>aD (rC ns vs (dA zs) (eF ag) l1 q)))/\Hid (Below w3.heap.size w3 wq)/\w3.heap.size+1<=wq.heap.size) (λi _=>vs.length - (intOf i).toNat)
   case atStart=>exact⟨0,_,V,aA8 _,rfl,HT,HV,HB,hsz⟩
   case round=>
    obtain⟨i',vT,V,zB,rfl,HT,HV,HB,hsz⟩:=hrel;rename World=>W1;clear Wy;by_cases zy:i'<vs.length
    ·obtain⟨b,cb,sD⟩:=agF.out i' zy;have Vu:=(HB.out.cell (p:=⟨G,0,none⟩) Ot).trans x0;have lk':=(HB.out.cell (p:=⟨gl,ol+k,none⟩) kz).trans (yK.out k hlk).2;have aeW:=(HB.out.cell (p:=⟨R,1,none⟩) hR).trans ca1;have Tx:=(HB.out.cell (p:=⟨gs,i',none⟩) nV).trans cb;have C:=λm=>RD.out (W1.drewN m) b (bD vs i') (dA zs k) (yK.out k hlk).1 (aBd HB.out m) ((sD.below HB.out).drewN m);have HSY:=hid (λy=>MM ns vs (dA zs) (eF ag) (k:=k) (i:=i') (y:=y));have HSN:=hid (λy=>Tt ns vs (dA zs) (eF ag) (k:=k) (i:=i') (y:=y));have nI:=hid (Pe ns vs (dA zs) (eF ag) (k:=k) (i:=i'));have ik1:(0:Int)<=(k:Int):=by omega
     have ik2:(k:Int)<(l1:Int):=by omega
     clear cb sD;generalize jL ns (bD vs i') (dA zs k)=rv at *;go_wp2_with fail
     go_quiet ((go_at_call 81;exact Calls.quiet_of_same (C _)))
     have cu:=hid (aBd HB.out nq);have bq:=aBd (aAW W1.heap.size W1) nq;have tZ:=hid (HT.out.below bq HT.out.lt);have Gq:=hid (HV.out.keeps bq);have ER:w3.heap.size+1<=(W1.drewN nq).heap.size:=hsz;clear C Vu lk' aeW Tx bq HT HV HB hsz;generalize W1.drewN nq=W2 at *;have Lf:=hid (λq (hq:q<k*vs.length+i') z (h:(V q).ownBlock=some z)=>((Gq.out.row q hq).lt z h).2);obtain⟨rT,cT,aoT,ayp,e,axI,zq⟩:=asF.out i' zy;subst e;have HCT:=hid cT;have Um:=hid zq;have ayi:=Gz ns vs i';have kS:=hid (λb=>Qz (ns:=ns) (vs:=vs) (i:=i') (b:=b));clear cT zq;generalize oU:(toS ns vs i').length=ln at *;have bZ:=hid oU;clear oU;go_wp2_with fail
     go_loopw [14,16] (λto i wq=>∃ y:Nat,y<=l1/\i=.int .i64 y/\Hid (Dm wq W2.heap.size to (mX ns vs (dA zs) (eF ag) k i' y))/\Hid (Two wq w3.heap.size vT (.slice none 0 0))/\Hid (iE wq (w3.heap.size+1) 22 3 vT (k*vs.length+i') V (λq=>aD (rC ns vs (dA zs) (eF ag) l1 q)))/\Hid (Below w3.heap.size w3 wq)/\W2.heap.size<=wq.heap.size) (λ_ i _=>l1 - (intOf i).toNat)
     case atStart=>exact⟨0,by omega,rfl,hid (aBh _ _ _ _),tZ,Gq,cu,aAU _⟩
     case round=>
      obtain⟨y,hy,rfl,HL,HT,HV,HB,ma⟩:=hrel;rename World=>W3;clear tZ Gq cu;have Vu:=(HB.out.cell (p:=⟨G,0,none⟩) Ot).trans x0;by_cases hly:y<l1
      ·cases rv with
       | false=>
        have hsl:mX ns vs (dA zs) (eF ag) k i' y=rC ns vs (dA zs) (eF ag) l1 (k*vs.length+i'):=by rw[FX ns vs (dA zs) (eF ag) l1 zy,nI.out rfl,nI.out rfl]
        rw[hsl]at HL;unfold Dm at HL;clear hsl;have Kl:(rC ns vs (dA zs) (eF ag) l1 (k*vs.length+i')).length<=2048:=by
         rw[FX ns vs (dA zs) (eF ag) l1 zy];exact aBO (yG ns vs (dA zs) (eF ag) k i' l1) (aBO (Nat.mul_le_mul RO hM) (by omega))
        have hkm:k*vs.length+i'<6*256:=aBi (Cx (show k<6 by omega) zy) (Nat.mul_le_mul_left _ hM);have HQE:Hid (k*vs.length+(i'+1)=(k*vs.length+i')+1):=hid rfl;generalize hqE:k*vs.length+i'=qq at *;generalize hLE:rC ns vs (dA zs) (eF ag) l1 qq=L at *;obtain⟨dK,dJ,rfl⟩:=ai HL.out;obtain⟨zU,zM,rfl⟩:=ai HV.out.out;have k0:=HT.out.c0;have b6:=(aAW W3.heap.size W3).alloc (aAU _) (.cells #[.slice dK L.length dJ] 22);go_wp2_with (at_builtin;go_must (refine aBw _ rfl (.tmp 125) (.tmp 127) 23 rfl (w3.heap.size+1) 22 i1 (.slice none 0 0) 1 24 Tryz.underlying23 iC fe eZ eY rfl (by decide) _ qq ((List.range qq).map V) rfl (HV.out.out.alloc _) ⟨W3.heap.size,0,none⟩ 1 1 [.slice dK L.length dJ] rfl rfl (dx W3 [.slice dK L.length dJ] _) (by intro y9 hy9;simp at hy9;rcases hy9 with rfl;rfl) (by decide) (by unfold maxLen;omega) (by omega) (by simp;omega) (W3.heap.size+1) (by simp) ?_));intro gg cc w7 hown hgrow hat uD;have vE:W3.heap.size<=w7.heap.size:=by
         have:=hgrow.size;simp at this;omega
        have Fq:=HT.out.lt;have tQ:(Value.slice zU qq zM).ownBlock≠some w3.heap.size:=λe=>by have:=(HV.out.out.lt _ e).1;omega
        have bT:=hgrow.block w3.heap.size (by rw[aAZ];omega) (λe=>tQ e.symm);have mg:=HT.out.below b6 Fq;have T7:Two w7 w3.heap.size (.slice zU qq zM) (.slice none 0 0):=⟨(aBf (a:=⟨w3.heap.size,0,none⟩) bT).trans mg.c0,(aBf (a:=⟨w3.heap.size,1,none⟩) bT).trans mg.c1,(aBg (a:=⟨w3.heap.size,0,none⟩) bT).trans mg.f0,(aBg (a:=⟨w3.heap.size,1,none⟩) bT).trans mg.f1⟩;have rJ:=(bJ HL.out (show w3.heap.size+1<=W2.heap.size by omega)).alloc (.cells #[.slice dK L.length dJ] 22);have V7:=oI (HV.out.keeps b6) (x:=.slice dK L.length dJ) (by rw[hLE,mD];exact rJ) (by decide) hgrow hown;have q0:=T7.c0;have q1:=T7.f0;have D1:=hid (T7.set0 (.slice (some ⟨gg,0,none⟩) (qq+1) cc));have D2:=hid (V7.set (show w3.heap.size<w3.heap.size+1 by omega) 0 (.slice (some ⟨gg,0,none⟩) (qq+1) cc));have D4:=hid (((HB.out.alloc HB.out.size (.cells #[.slice dK L.length dJ] 22)).grown hgrow (by simp;omega) (λq h=>by have:=(HV.out.out.lt q h).1;omega)).setCell (p:=⟨w3.heap.size,0,none⟩) (aAU _) (.slice (some ⟨gg,0,none⟩) (qq+1) cc));clear hown hgrow hat b6 HL HT HV HB rJ T7 V7 tQ bT mg;go_wp2_with fail;go_roundw
        case rel=>exact⟨i'+1,_,_,by omega,by go_num,D1,by rw[HQE.out];exact D2,D4,by simp;omega⟩
        case measure=>simp[intOf];omega
       | true=>
        have El:=(HB.out.cell (p:=⟨G,1,none⟩) Ot).trans x1;have Qp:=(HB.out.cell (p:=⟨G,2,none⟩) Ot).trans x2;have EG:=hid (Eu (some ⟨gl,ol,none⟩) a2 a3 l1 c1 l1 c2 l3 c3 ag W3 k y (I2.out.below HB.out) hlk);have iP:=hid (zN ns vs (dA zs) (eF ag) k i' y);have asG:=hid (HSY.out y);have asH:=hid (HSN.out y);have axE:(mX ns vs (dA zs) (eF ag) k i' y).length<=1536:=aBO (yG ns vs (dA zs) (eF ag) k i' y) (aBO (Nat.mul_le_mul (show y<=6 by omega) hM) (by omega));generalize eF ag k y=ev at *;go_wp2_with fail;refine EG.out.mono ?_;rintro e W4 ⟨rfl,eH⟩;have rO:=hid (ae HL.out eH);have tZ:=hid (HT.out.below eH HT.out.lt);have Gq:=hid (HV.out.keeps eH);have cu:=hid (HB.out.trans (eH.mono HB.out.size));have aed:W2.heap.size<=W4.heap.size:=aBO ma eH.size;clear EG eH HL HT HV HB ma Vu El Qp;have jc:y*vs.length<=6*256:=Nat.mul_le_mul (by omega) hM;have wm:IntKind.i64.wrap ((y:Int)*(vs.length:Int))=((y*vs.length:Nat):Int):=by
         rw[IntKind.wrap_i64,<-Int.natCast_mul];omega
        generalize aj0:y*vs.length=pr at *;have HPR:=hid aj0;clear aj0;go_wp2_with fail
        go_loopw [14,18] (λto i wq=>∃ j:Nat,j<=ln/\i=.int .i64 j/\Hid (ev=true\/j=0)/\Hid (Dm wq W2.heap.size to (KM ns vs (dA zs) (eF ag) k i' y pr j))/\Hid (Two wq w3.heap.size vT (.slice none 0 0))/\Hid (iE wq (w3.heap.size+1) 22 3 vT (k*vs.length+i') V (λq=>aD (rC ns vs (dA zs) (eF ag) l1 q)))/\Hid (Below w3.heap.size w3 wq)/\W2.heap.size<=wq.heap.size) (λ_ i _=>ln - (intOf i).toNat)
        case atStart=>exact⟨0,aA8 _,rfl,hid (aA3 rfl),hid (by unfold Dm KM;simpa [Dm] using rO.out),tZ,Gq,cu,aed⟩
        case round=>
         obtain⟨j,hj,rfl,YF,HL,HT,HV,HB,ma⟩:=hrel;rename World=>W5;clear rO tZ Gq cu aed;have t2:=(HB.out.cell (p:=⟨R,2,none⟩) hR).trans ca2;have t3:=(HB.out.cell (p:=⟨gt,i',none⟩) hgt).trans HCT.out;have fin:¬ (j<ln/\ev=true)->Hid (mX ns vs (dA zs) (eF ag) k i' (y+1)=KM ns vs (dA zs) (eF ag) k i' y pr j):=λhno=>hid (by
          rw[iP.out];unfold KM;congr 1;by_cases c:ev=true
          ·rw[asG.out ⟨by first | rfl | trivial,c⟩,List.take_of_length_le (by rw[bZ.out];exact Nat.le_of_not_lt λh=>hno ⟨h,c⟩)]
          ·rcases YF.out with h | h
           ·exact absurd h c
           ·rw[h,asH.out (λh=>c h.2)];rfl)
         by_cases eQ:j<ln
         ·cases ev with
          | false=>
           have FN:=fin (by simp);rw[<-FN.out]at HL;clear fin FN YF;go_wp2_with fail;go_roundw
           case rel=>exact⟨y+1,by omega,by go_num,HL,HT,HV,HB,ma⟩
           case measure=>simp[intOf];omega
          | true=>
           obtain⟨gr,e,hgr,rz⟩:=Um.out (by omega);subst e;obtain⟨t,ht⟩:∃ t,(toS ns vs i')[j]?=some t:=⟨(toS ns vs i')[j]'(by rw[bZ.out];exact eQ),aAV (by rw[bZ.out];exact eQ)⟩;have htM:=kS.out t (aBB ht);have hat:df (toS ns vs i') j=t:=by simp[df,List.getD,ht]
           have t4:W5.cell? ⟨gr,j,none⟩=some (.int .i64 (t:Nat)):=(HB.out.cell (p:=⟨gr,j,none⟩) hgr).trans (by have h9:=rz j eQ;rw[hat]at h9;exact h9);have HTK:Hid ((toS ns vs i').take (j+1)=(toS ns vs i').take j++[t]):=hid (by rw[List.take_add_one,ht];rfl);have wa:IntKind.i64.wrap ((pr:Int)+(t:Int))=(pr:Int)+(t:Int):=by rw[IntKind.wrap_i64];omega
           have Ob:((toS ns vs i').take j).length=j:=by rw[List.length_take,bZ.out];omega
           have hLl:(KM ns vs (dA zs) (eF ag) k i' y pr j).length<=2048+256:=by unfold KM;rw[aA5,aBG,Ob];omega
           clear fin rz ht hat Ob;generalize hLE:KM ns vs (dA zs) (eF ag) k i' y pr j=L at *;unfold Dm at HL;obtain⟨dK,dJ,rfl⟩:=ai HL.out;have uk:=hid (λq h=>(HL.out.lt q h).1);go_wp2_with (at_builtin;go_must (refine aBw _ rfl (.tmp 104) (.tmp 119) 22 rfl W2.heap.size 3 i0 (.int .i64 0) 1 8 Tryz.underlying22 hi aR aP aN rfl (by decide) _ L.length (aD L) rfl (HL.out.alloc _) ⟨W5.heap.size,0,none⟩ 1 1 [.int .i64 ((pr:Int)+(t:Int))] rfl rfl (dx W5 [.int .i64 ((pr:Int)+(t:Int))] _) (by intro y hy;simp at hy;rcases hy with rfl;rfl) (by decide) (by unfold maxLen;omega) (by omega) (by simp;omega) (W5.heap.size+1) (by simp) ?_));intro gg cc w7 hown hgrow hat uD;have b6:=(aAW W5.heap.size W5).alloc (aAU _) (.cells #[.int .i64 ((pr:Int)+(t:Int))] 3);have vE:W5.heap.size<=w7.heap.size:=by
            have:=hgrow.size;simp at this;omega
           have hLW:(Value.slice dK L.length dJ).ownBlock≠some w3.heap.size:=λe=>by have:=uk.out _ e;omega
           have bT:=hgrow.block w3.heap.size (by rw[aAZ];have:=HT.out.lt;omega) (λe=>hLW e.symm);have T7:Hid (Two w7 w3.heap.size vT (.slice none 0 0)):=hid (by
            have mg:=HT.out.below b6 HT.out.lt;exact⟨(aBf (a:=⟨w3.heap.size,0,none⟩) bT).trans mg.c0,(aBf (a:=⟨w3.heap.size,1,none⟩) bT).trans mg.c1,(aBg (a:=⟨w3.heap.size,0,none⟩) bT).trans mg.f0,(aBg (a:=⟨w3.heap.size,1,none⟩) bT).trans mg.f1⟩)
           have V7:=hid ((HV.out.keeps b6).CJ hgrow (aC (HV.out.keeps b6).out (HL.out.alloc (.cells #[.int .i64 ((pr:Int)+(t:Int))] 3)) (by decide)) (λq hq=>by
            cases hv:(V q).ownBlock with
            | none=>exact aA2 rfl
            | some z=>
             refine aA3 λe=>?_;have h1:=uk.out z e.symm;have h2:=Lf.out q hq z hv;omega))
           have L7:Hid (Dm w7 W2.heap.size (.slice (some ⟨gg,0,none⟩) (L.length+1) cc) (KM ns vs (dA zs) (eF ag) k i' y pr (j+1))):=hid (by
            have asl:mX ns vs (dA zs) (eF ag) k i' y++((toS ns vs i').take j).map (λq=>pr+q)=L:=hLE;unfold Dm KM;rw[HTK.out,aBE,<-List.append_assoc,asl,aA5,show aD (L++List.map (λj=>pr+j) [t])=aD L++[.int .i64 ((pr:Int)+(t:Int))] by simp[aD]];exact hown)
           have iG:=hid ((HB.out.alloc (by omega) (.cells #[.int .i64 ((pr:Int)+(t:Int))] 3)).grown hgrow (by simp;omega) (λq h=>by have:=uk.out q h;omega));clear hown hgrow hat b6 bT HL HT HV HB hLW;go_wp2_with fail;go_roundw
           case rel=>exact⟨j+1,by omega,by go_num,hid (aA2 (by first | rfl | trivial)),L7,T7,V7,iG,by omega⟩
           case measure=>simp[intOf];omega
         ·have FN:=fin (λh=>eQ h.1);rw[<-FN.out]at HL;obtain rfl:j=ln:=by omega
          clear fin FN YF;go_wp2_with fail;go_roundw
          case rel=>exact⟨y+1,by omega,by go_num,HL,HT,HV,HB,ma⟩
          case measure=>simp[intOf];omega
      ·obtain rfl:y=l1:=by omega
       have hsl:mX ns vs (dA zs) (eF ag) k i' y=rC ns vs (dA zs) (eF ag) y (k*vs.length+i'):=by rw[FX ns vs (dA zs) (eF ag) y zy]
       rw[hsl]at HL;unfold Dm at HL;clear hsl;have Kl:(rC ns vs (dA zs) (eF ag) y (k*vs.length+i')).length<=2048:=by
        rw[FX ns vs (dA zs) (eF ag) y zy];exact aBO (yG ns vs (dA zs) (eF ag) k i' y) (aBO (Nat.mul_le_mul RO hM) (by omega))
       have hkm:k*vs.length+i'<6*256:=aBi (Cx (show k<6 by omega) zy) (Nat.mul_le_mul_left _ hM);have HQE:Hid (k*vs.length+(i'+1)=(k*vs.length+i')+1):=hid rfl;generalize hqE:k*vs.length+i'=qq at *;generalize hLE:rC ns vs (dA zs) (eF ag) y qq=L at *;obtain⟨dK,dJ,rfl⟩:=ai HL.out;obtain⟨zU,zM,rfl⟩:=ai HV.out.out;have k0:=HT.out.c0;have b6:=(aAW W3.heap.size W3).alloc (aAU _) (.cells #[.slice dK L.length dJ] 22);go_wp2_with (at_builtin;go_must (refine aBw _ rfl (.tmp 125) (.tmp 127) 23 rfl (w3.heap.size+1) 22 i1 (.slice none 0 0) 1 24 Tryz.underlying23 iC fe eZ eY rfl (by decide) _ qq ((List.range qq).map V) rfl (HV.out.out.alloc _) ⟨W3.heap.size,0,none⟩ 1 1 [.slice dK L.length dJ] rfl rfl (dx W3 [.slice dK L.length dJ] _) (by intro y9 hy9;simp at hy9;rcases hy9 with rfl;rfl) (by decide) (by unfold maxLen;omega) (by omega) (by simp;omega) (W3.heap.size+1) (by simp) ?_));intro gg cc w7 hown hgrow hat uD;have vE:W3.heap.size<=w7.heap.size:=by
        have:=hgrow.size;simp at this;omega
       have Fq:=HT.out.lt;have tQ:(Value.slice zU qq zM).ownBlock≠some w3.heap.size:=λe=>by have:=(HV.out.out.lt _ e).1;omega
       have bT:=hgrow.block w3.heap.size (by rw[aAZ];omega) (λe=>tQ e.symm);have mg:=HT.out.below b6 Fq;have T7:Two w7 w3.heap.size (.slice zU qq zM) (.slice none 0 0):=⟨(aBf (a:=⟨w3.heap.size,0,none⟩) bT).trans mg.c0,(aBf (a:=⟨w3.heap.size,1,none⟩) bT).trans mg.c1,(aBg (a:=⟨w3.heap.size,0,none⟩) bT).trans mg.f0,(aBg (a:=⟨w3.heap.size,1,none⟩) bT).trans mg.f1⟩;have rJ:=(bJ HL.out (show w3.heap.size+1<=W2.heap.size by omega)).alloc (.cells #[.slice dK L.length dJ] 22);have V7:=oI (HV.out.keeps b6) (x:=.slice dK L.length dJ) (by rw[hLE,mD];exact rJ) (by decide) hgrow hown;have q0:=T7.c0;have q1:=T7.f0;have D1:=hid (T7.set0 (.slice (some ⟨gg,0,none⟩) (qq+1) cc));have D2:=hid (V7.set (show w3.heap.size<w3.heap.size+1 by omega) 0 (.slice (some ⟨gg,0,none⟩) (qq+1) cc));have D4:=hid (((HB.out.alloc HB.out.size (.cells #[.slice dK L.length dJ] 22)).grown hgrow (by simp;omega) (λq h=>by have:=(HV.out.out.lt q h).1;omega)).setCell (p:=⟨w3.heap.size,0,none⟩) (aAU _) (.slice (some ⟨gg,0,none⟩) (qq+1) cc));clear hown hgrow hat b6 HL HT HV HB rJ T7 V7 tQ bT mg;go_wp2_with fail;go_roundw
       case rel=>exact⟨i'+1,_,_,by omega,by go_num,D1,by rw[HQE.out];exact D2,D4,by simp;omega⟩
       case measure=>simp[intOf];omega
    ·obtain rfl:i'=vs.length:=by omega
     have HQS:Hid ((k+1)*vs.length=k*vs.length+vs.length):=hid (Nat.succ_mul _ _);go_wp2_with fail;go_roundw
     case rel=>exact⟨k+1,vT,V,by omega,by go_num,HT,by rw[HQS.out];exact HV,HB,hsz⟩
     case measure=>simp[intOf];omega
  ·obtain rfl:k=l1:=by omega
   have PK:=hid Pz.out.fr;have hF:=PK.out.Rl;have fr0:=PK.out.c0;have hkM:k*vs.length<=6*256:=Nat.mul_le_mul g6 hM;go_wp2_with fail;clear Wy
   go_loopw [19] (λi wq=>∃ (p:Nat) (vK:Value) (U:Nat->Value),p<=ns.length/\i=.int .i64 p/\Hid (Two wq w3.heap.size vT vK)/\Hid (iE wq (w3.heap.size+1) 22 3 vT (k*vs.length) V (λq=>aD (rC ns vs (dA zs) (eF ag) k q)))/\Hid (iE wq (w3.heap.size+1) 132 4 vK p U (λq=>ay (zm ns vs q) (k*vs.length) (k*vs.length)))/\Hid (Below w3.heap.size w3 wq)/\w3.heap.size+1<=wq.heap.size) (λi _=>ns.length - (intOf i).toNat)
   case atStart=>exact⟨0,_,λ_=>.slice none 0 0,aA8 _,rfl,HT,HV,hid (xz _ _ _ _ _ _),HB,hsz⟩
   case round=>
    obtain⟨p,vK,U,hp,rfl,HT,HV,HU,HB,hsz⟩:=hrel;rename World=>W1;have Nr:=(HB.out.cell (p:=⟨R,0,none⟩) hR).trans r0;have ak0:=(HB.out.cell (p:=⟨F,0,none⟩) hF).trans fr0;by_cases hlp:p<ns.length
    ·have HUB:=hid (λq (hq:q<p) z (h:(U q).ownBlock=some z)=>((HU.out.row q hq).lt z h).2);go_wp2_with fail
     go_loopw [20,21] (λkept i wq=>∃ k2:Nat,k2<=k/\i=.int .i64 k2/\Hid (wq.ownsRow W1.heap.size 4 1 kept (k2*vs.length) (ay (zm ns vs p) (k2*vs.length) (k2*vs.length)))/\Hid (Two wq w3.heap.size vT vK)/\Hid (iE wq (w3.heap.size+1) 22 3 vT (k*vs.length) V (λq=>aD (rC ns vs (dA zs) (eF ag) k q)))/\Hid (iE wq (w3.heap.size+1) 132 4 vK p U (λq=>ay (zm ns vs q) (k*vs.length) (k*vs.length)))/\Hid (Below w3.heap.size w3 wq)/\W1.heap.size<=wq.heap.size) (λ_ i _=>k - (intOf i).toNat)
     case atStart=>exact⟨0,aA8 _,rfl,by rw[Nat.zero_mul];exact hid (aBh _ _ _ _),HT,HV,HU,HB,aAU _⟩
     case round=>
      obtain⟨k2,DR,rfl,HL,HT,HV,HU,HB,ma⟩:=hrel;rename World=>W2;clear Nr ak0;have Wy:=(HB.out.cell (p:=⟨G,0,none⟩) Ot).trans x0;by_cases Yw:k2<k
      ·go_wp2_with fail;clear Wy
       go_loopw [20,22] (λkept i wq=>∃ i2:Nat,i2<=vs.length/\i=.int .i64 i2/\Hid (wq.ownsRow W1.heap.size 4 1 kept (k2*vs.length+i2) (ay (zm ns vs p) (k2*vs.length+i2) (k2*vs.length+i2)))/\Hid (Two wq w3.heap.size vT vK)/\Hid (iE wq (w3.heap.size+1) 22 3 vT (k*vs.length) V (λq=>aD (rC ns vs (dA zs) (eF ag) k q)))/\Hid (iE wq (w3.heap.size+1) 132 4 vK p U (λq=>ay (zm ns vs q) (k*vs.length) (k*vs.length)))/\Hid (Below w3.heap.size w3 wq)/\W1.heap.size<=wq.heap.size) (λ_ i _=>vs.length - (intOf i).toNat)
       case atStart=>exact⟨0,aA8 _,rfl,HL,HT,HV,HU,HB,ma⟩
       case round=>
        obtain⟨i2,ar3,rfl,HL,HT,HV,HU,HB,ma⟩:=hrel;rename World=>W3;by_cases Jj:i2<vs.length
        ·obtain⟨b,cb,sD⟩:=agF.out i2 Jj;have Nr:=(HB.out.cell (p:=⟨R,0,none⟩) hR).trans r0;have aeW:=(HB.out.cell (p:=⟨R,1,none⟩) hR).trans ca1;have Tx:=(HB.out.cell (p:=⟨gs,i2,none⟩) nV).trans cb;have C:=KD.out W3 b (bD vs i2) p hlp HB.out (sD.below HB.out);have zx:k2*vs.length+i2<6*256:=aBi (Cx (show k2<6 by omega) Jj) (Nat.mul_le_mul_left _ hM);have HKP:Hid (zm ns vs p (k2*vs.length+i2)=ic (aA ns p) p (bD vs i2)):=hid (by unfold zm;rw[AX Jj];rfl);clear cb sD;generalize ic (aA ns p) p (bD vs i2)=kv at *;go_wp2_with fail;refine C.mono ?_;rintro e W4 ⟨rfl,e4⟩;rw[<-e4]at HB HL HT HV HU ma;have cu:=HB;have rO:=HL;have tZ:=HT;have Gq:=HV;have HU3:=HU;have aed:=ma;clear C Nr aeW Tx HL HT HV HU HB ma e4;have HQE:Hid (k2*vs.length+(i2+1)=(k2*vs.length+i2)+1):=hid rfl;generalize hqE:k2*vs.length+i2=qq at *;obtain⟨dK,dJ,rfl⟩:=ai rO.out;have uk:=hid (λq h=>(rO.out.lt q h).1);go_wp2_with (at_builtin;go_must (refine aBw _ rfl (.tmp 162) (.tmp 164) 132 rfl W1.heap.size 4 i2b (.bool false) 1 1 Tryz.underlying132 zA aea ad8 ad6 rfl (by decide) _ qq (ay (zm ns vs p) qq qq) rfl (rO.out.alloc _) ⟨W4.heap.size,0,none⟩ 1 1 [.bool kv] rfl rfl (dx W4 [.bool kv] _) (by intro y hy;simp at hy;rcases hy with rfl;rfl) (by decide) (by unfold maxLen;omega) (by omega) (by simp;omega) (W4.heap.size+1) (by simp) ?_));intro gg cc w7 hown hgrow hat uD;have b6:=(aAW W4.heap.size W4).alloc (aAU _) (.cells #[.bool kv] 4);have vE:W4.heap.size<=w7.heap.size:=by
          have:=hgrow.size;simp at this;omega
         have hLW:(Value.slice dK qq dJ).ownBlock≠some w3.heap.size:=λe=>by have:=uk.out _ e;omega
         have Fq:=tZ.out.lt;have bT:=hgrow.block w3.heap.size (by rw[aAZ];omega) (λe=>hLW e.symm);have T7:Hid (Two w7 w3.heap.size vT vK):=hid (by
          have mg:=tZ.out.below b6 Fq;exact⟨(aBf (a:=⟨w3.heap.size,0,none⟩) bT).trans mg.c0,(aBf (a:=⟨w3.heap.size,1,none⟩) bT).trans mg.c1,(aBg (a:=⟨w3.heap.size,0,none⟩) bT).trans mg.f0,(aBg (a:=⟨w3.heap.size,1,none⟩) bT).trans mg.f1⟩)
         have V7:=hid ((Gq.out.keeps b6).CJ hgrow (aC (Gq.out.keeps b6).out (rO.out.alloc (.cells #[.bool kv] 4)) (by decide)) (λq hq=>aC ((Gq.out.keeps b6).row q hq) (rO.out.alloc (.cells #[.bool kv] 4)) (by decide)));have U7:=hid ((HU3.out.keeps b6).CJ hgrow (aC (HU3.out.keeps b6).out (rO.out.alloc (.cells #[.bool kv] 4)) (by decide)) (λq hq=>by
          cases hv:(U q).ownBlock with
          | none=>exact aA2 rfl
          | some z=>
           refine aA3 λe=>?_;have h1:=uk.out z e.symm;have h2:=HUB.out q hq z hv;omega))
         have L7:Hid (w7.ownsRow W1.heap.size 4 1 (.slice (some ⟨gg,0,none⟩) (qq+1) cc) (qq+1) (ay (zm ns vs p) (qq+1) (qq+1))):=hid (by
          rw[X8,HKP.out];exact hown)
         have iG:=hid ((cu.out.alloc (by omega) (.cells #[.bool kv] 4)).grown hgrow (by simp;omega) (λq h=>by have:=uk.out q h;omega));clear hown hgrow hat b6 bT rO tZ Gq HU3 cu hLW;go_wp2_with fail;go_roundw
         case rel=>exact⟨i2+1,by omega,by go_num,by rw[HQE.out];exact L7,T7,V7,U7,iG,by omega⟩
         case measure=>simp[intOf];omega
        ·obtain rfl:i2=vs.length:=by omega
         have HQS:Hid ((k2+1)*vs.length=k2*vs.length+vs.length):=hid (Nat.succ_mul _ _);go_wp2_with fail;go_roundw
         case rel=>exact⟨k2+1,by omega,by go_num,by rw[HQS.out];exact HL,HT,HV,HU,HB,ma⟩
         case measure=>simp[intOf];omega
      ·obtain rfl:k2=k:=by omega
       obtain⟨dK,dJ,rfl⟩:=ai HL.out;obtain⟨zU,zM,rfl⟩:=ai HU.out.out;have k0:=HT.out.c1;have b6:=(aAW W2.heap.size W2).alloc (aAU _) (.cells #[.slice dK (k2*vs.length) dJ] 132);go_wp2_with (at_builtin;go_must (refine aBw _ rfl (.tmp 170) (.tmp 172) 77 rfl (w3.heap.size+1) 132 i3 (.slice none 0 0) 1 24 Tryz.underlying77 hi3 ad9 ad7 ad5 rfl (by decide) _ p ((List.range p).map U) rfl (HU.out.out.alloc _) ⟨W2.heap.size,0,none⟩ 1 1 [.slice dK (k2*vs.length) dJ] rfl rfl (dx W2 [.slice dK (k2*vs.length) dJ] _) (by intro y hy;simp at hy;rcases hy with rfl;rfl) (by decide) (by unfold maxLen;omega) (by omega) (by simp;omega) (W2.heap.size+1) (by simp) ?_));intro gg cc w7 hown hgrow hat uD;have vE:W2.heap.size<=w7.heap.size:=by
        have:=hgrow.size;simp at this;omega
       have Fq:=HT.out.lt;have tQ:(Value.slice zU p zM).ownBlock≠some w3.heap.size:=λe=>by have:=(HU.out.out.lt _ e).1;omega
       have bT:=hgrow.block w3.heap.size (by rw[aAZ];omega) (λe=>tQ e.symm);have mg:=HT.out.below b6 Fq;have T7:Two w7 w3.heap.size vT (.slice zU p zM):=⟨(aBf (a:=⟨w3.heap.size,0,none⟩) bT).trans mg.c0,(aBf (a:=⟨w3.heap.size,1,none⟩) bT).trans mg.c1,(aBg (a:=⟨w3.heap.size,0,none⟩) bT).trans mg.f0,(aBg (a:=⟨w3.heap.size,1,none⟩) bT).trans mg.f1⟩;have rJ:=(bJ HL.out (show w3.heap.size+1<=W1.heap.size by omega)).alloc (.cells #[.slice dK (k2*vs.length) dJ] 132);have U7:=oI (HU.out.keeps b6) (x:=.slice dK (k2*vs.length) dJ) (by rw[Ey];exact rJ) (by decide) hgrow hown;have V7:=(HV.out.keeps b6).grown (HU.out.out.alloc (.cells #[.slice dK (k2*vs.length) dJ] 132)) hgrow (by decide) (by decide);have q0:=T7.c1;have q1:=T7.f1;have D1:=hid (T7.set1 (.slice (some ⟨gg,0,none⟩) (p+1) cc));have D2:=hid (U7.set (show w3.heap.size<w3.heap.size+1 by omega) 1 (.slice (some ⟨gg,0,none⟩) (p+1) cc));have D3:=hid (V7.set (show w3.heap.size<w3.heap.size+1 by omega) 1 (.slice (some ⟨gg,0,none⟩) (p+1) cc));have D4:=hid (((HB.out.alloc HB.out.size (.cells #[.slice dK (k2*vs.length) dJ] 132)).grown hgrow (by simp;omega) (λq h=>by have:=(HU.out.out.lt q h).1;omega)).setCell (p:=⟨w3.heap.size,1,none⟩) (aAU _) (.slice (some ⟨gg,0,none⟩) (p+1) cc));clear hown hgrow hat b6 HL HT HV HU HB rJ T7 V7 U7 tQ bT mg;go_wp2_with fail;go_roundw
       case rel=>exact⟨p+1,_,_,by omega,by go_num,D1,D3,D2,D4,by simp;omega⟩
       case measure=>simp[intOf];omega
    ·obtain rfl:p=ns.length:=by omega
     have Fq:=HT.out.lt;have NM:=hid (show pq W1 w3.heap.size (k*vs.length) (rC ns vs (dA zs) (eF ag) k) ns.length (zm ns vs) from ⟨Fq,⟨_,HT.out.c0,LY HV.out⟩,⟨_,HT.out.c1,ahH (Nat.mul_pos (by omega) hM0) HU.out⟩⟩);clear HT HV HU;go_wp2_with fail;refine(UC.out W1 w3.heap.size NM.out).mono ?_;rintro e w5 ⟨g5,good,rfl,hg5,hBO,zC,bV⟩;have iM:=hid (HB.out.trans (bV.mono HB.out.size));have HBO:=hid hBO;have amJ:Hid ((∃ j,j<l3/\∃ i,i<vs.length/\bD vs i (ns.length - 1)=false/\good ((ss.getD j 0).toNat*vs.length+i)=true)↔¬ pV ns zs.length (dA zs) (eF ag) (tT ss)):=hid (by
      rw[qw.out,<-aeR GD.out as1.out (λi hi=>(yK.out i hi).1) zC,<-Uv.out];exact(aeP HNU.out (P:=λk=>∃ i,i<vs.length/\bD vs i (ns.length - 1)=false/\good (k*vs.length+i)=true)).symm)
     clear hBO zC bV Nr ak0;go_wp2_with fail;refine(WH.out w5 iM.out).mono ?_;rintro e w6 ⟨g6',rfl,sD,hg6,jG⟩;have kG:=hid (iM.out.trans (jG.mono iM.out.size));have H6:=hid sD;have H5:=hid (λi (hi:i<k*vs.length)=>(jG.cell (p:=⟨g5,i,none⟩) HBO.out.blk.2).trans (HBO.out.get hi));have HBE:=hid (Ab.out.trans (kG.out.mono (Nat.le_of_lt Ot)));clear sD jG HB iM;have y2:=(kG.out.cell (p:=⟨G,2,none⟩) Ot).trans x2;have HI3:=hid (I3.out.below kG.out);go_wp2_with fail
     go_loopw [26] (λi wq=>∃ k2:Nat,k2<=l3/\i=.int .i64 k2/\Hid (∀ j,j<k2->¬ ∃ i,i<vs.length/\bD vs i (ns.length - 1)=false/\good ((ss.getD j 0).toNat*vs.length+i)=true)/\w6=wq) (λi _=>l3 - (intOf i).toNat)
     case atStart=>exact⟨0,aA8 _,rfl,hid (λj h=>by omega),rfl⟩
     case round=>
      obtain⟨k2,DR,rfl,HA,e⟩:=hrel;subst e;by_cases Yw:k2<l3
      ·obtain⟨gz,oz,e,hgz,hzc⟩:=HI3.out.hcell (by omega);subst e;have ck2:=hzc k2 Yw;have hst:0<=ss.getD k2 0/\ss.getD k2 0<(k:Int):=oN.1 HNU.out _ (by rw[List.getD,aAV (by rw[Uv.out];exact Yw)];exact List.getElem_mem _);obtain⟨z,ez⟩:∃ z:Nat,ss.getD k2 0=(z:Int):=⟨(ss.getD k2 0).toNat,(Int.toNat_of_nonneg hst.1).symm⟩;rw[ez]at ck2 hst;have HZ:Hid ((ss.getD k2 0).toNat=z):=hid (by rw[ez];rfl);have hzk:z<k:=by omega
       clear ez hst hzc;have j1:(0:Int)<=(k2:Int):=by omega
       have j2:(k2:Int)<(l3:Int):=by omega
       go_wp2_with fail
       go_loopw [27] (λi wq=>∃ i2:Nat,i2<=vs.length/\i=.int .i64 i2/\Hid (∀ j,j<i2->¬ (bD vs j (ns.length - 1)=false/\good (z*vs.length+j)=true))/\w6=wq) (λi _=>vs.length - (intOf i).toNat)
       case atStart=>exact⟨0,aA8 _,rfl,hid (λj h=>by omega),rfl⟩
       case round=>
        obtain⟨i2,ar3,rfl,HA1,e⟩:=hrel;subst e;by_cases Jj:i2<vs.length
        ·have c6:=H6.out.cell i2 Jj;have hzl:z*vs.length+i2<k*vs.length:=Cx hzk Jj;have c5:=H5.out (z*vs.length+i2) hzl;have hzM:z*vs.length<=6*256:=Nat.mul_le_mul (by omega) hM;have wm:IntKind.i64.wrap ((z:Int)*(vs.length:Int))=((z*vs.length:Nat):Int):=by
          rw[IntKind.wrap_i64,<-Int.natCast_mul];omega
         have tu:Hid (((bD vs i2 (ns.length - 1)==false)&&good (z*vs.length+i2))=false->∀ j,j<i2+1->¬ (bD vs j (ns.length - 1)=false/\good (z*vs.length+j)=true)):=hid (λe j hj=>by
          by_cases c:j=i2
          ·subst c;rintro ⟨h1,h2⟩;rw[h1,h2]at e;simp at e
          ·exact HA1.out j (by omega))
         have HY:Hid (((bD vs i2 (ns.length - 1)==false)&&good (z*vs.length+i2))=true->¬ pV ns zs.length (dA zs) (eF ag) (tT ss)):=hid (λe=>by
          rw[aBz,beq_iff_eq]at e;exact amJ.out.1 ⟨k2,Yw,i2,Jj,e.1,by rw[HZ.out];exact e.2⟩)
         have atq:=HA1;clear HA1 atq;generalize hgv:good (z*vs.length+i2)=gv at *;clear hgv;generalize z*vs.length=pz at *;have wa:IntKind.i64.wrap ((pz:Int)+(i2:Int))=(pz:Int)+(i2:Int):=by rw[IntKind.wrap_i64];omega
         have e5:((pz:Int)+(i2:Int)).toNat=pz+i2:=by omega
         generalize hNE:k*vs.length=N at *;have u1:(0:Int)<=(pz:Int)+(i2:Int):=by omega
         have u2:(pz:Int)+(i2:Int)<(N:Int):=by omega
         generalize (bD vs i2 (ns.length - 1)==false)=fv at *;cases fv with
         | false=>
          go_wp2_with fail;go_roundw
          case rel=>exact⟨i2+1,by omega,by go_num,hid (tu.out rfl),trivial⟩
          case measure=>simp[intOf];omega
         | true=>
          cases gv with
          | false=>
           go_wp2_with fail;go_roundw
           case rel=>exact⟨i2+1,by omega,by go_num,hid (tu.out rfl),trivial⟩
           case measure=>simp[intOf];omega
          | true=>
           have HYY:=hid (HY.out rfl);go_wp2_with fail
           go_ret2
           exact KOK.out _ HBE.out false ⟨λh=>(by cases h),λh=>absurd h HYY.out⟩
        ·obtain rfl:i2=vs.length:=by omega
         have Xk:Hid (∀ j,j<k2+1->¬ ∃ i,i<vs.length/\bD vs i (ns.length - 1)=false/\good ((ss.getD j 0).toNat*vs.length+i)=true):=hid (λj hj=>by
          by_cases c:j=k2
          ·subst c;rw[HZ.out];rintro ⟨i,h1,h2⟩;exact HA1.out i h1 h2
          ·exact HA.out j (by omega))
         go_wp2_with fail;go_roundw
         case rel=>exact⟨k2+1,by omega,by go_num,Xk,trivial⟩
         case measure=>simp[intOf];omega
      ·obtain rfl:k2=l3:=by omega
       have HYY:Hid (pV ns zs.length (dA zs) (eF ag) (tT ss)):=hid (aBp λh=>by
        obtain⟨j,hj,h2⟩:=amJ.out.2 h;exact HA.out j hj h2)
       go_wp2_with fail
       go_ret2
       exact KOK.out _ HBE.out true ⟨λ_=>HYY.out,λ_=>rfl⟩
theorem XW(hm:s.size<=maxLen)(h1:Ints w a1 l1 c1 zs)(h2:Lists w a2 l2 c2 ag)(h3:Ints w a3 l3 c3 ss) :
  Calls Tryz.prog 42 #[.agg #[.slice a1 l1 c1,.slice a2 l2 c2,.slice a3 l3 c3],.string s] w (qP zs ag ss s w):=by
 by_cases hc:bM zs ag ss=false\/(aB s).1≠0
 ·exact ZU a1 a2 a3 l1 c1 l2 c2 l3 c3 zs ag ss s w hm h1 h2 h3 hc
 ·refine XV a1 a2 a3 l1 c1 l2 c2 l3 c3 zs ag ss s w hm h1 h2 h3 ?_ ?_
  ·cases e:bM zs ag ss with
   | true=>rfl
   | false=>exact absurd (aA2 e) hc
  ·exact aBp λh=>hc (aA3 h)
end
