import Derived.Test.YtjagijohfkffiabGreatFREM42
set_option maxHeartbeats 16000000
set_option maxRecDepth 100000
set_option linter.unusedSimpArgs false
namespace Go.Proofs.YtjagijohfkffiabGreat
open Go.RowKit
set_option linter.unusedVariables false
theorem Fm.below{w w':World}{F:Nat}{ns:List Nd}{bs:List Nat}(h:Fm w F ns bs)(hb:Below w.heap.size w w'):Fm w' F ns bs:=by
 obtain⟨ao,cap,c,own⟩:=h.c0;refine⟨⟨ao,cap,(hb.cell (p:=⟨F,0,none⟩) h.r9).trans c,ae own hb⟩,(hb.frozen (p:=⟨F,0,none⟩) h.r9).trans h.f0,h.len,h.wf,λi n hn=>?_⟩;obtain⟨b,e,hF,hh⟩:=h.parts i n hn;exact⟨b,e,hF,(hb.block b (dB hh)).trans hh⟩
theorem aaC{w:World}{b off len cap n:Nat}{zs:List Int}(h:Ints w (some ⟨b,off,none⟩) len cap zs)(hn:n<=len):Ints w (some ⟨b,off,none⟩) n cap (zs.take n):=by
 refine⟨by have:=h.hlen;simp;omega,by have:=h.hcap;omega,h.hmax,λe=>by simp at e,λh0=>?_⟩;obtain⟨b',Me,e,hb,hc⟩:=h.hcell (by omega);refine⟨b',Me,e,hb,λi hi=>?_⟩;rw[hc i (by omega)];simp[List.getD,hi]
theorem aaD{w:World}{b off len cap n:Nat}{zs:List Int}(h:Ints w (some ⟨b,off,none⟩) len cap zs)(hn:n<=len):Ints w (some ⟨b,off+n,none⟩) (len - n) (cap - n) (zs.drop n):=by
 refine⟨by have:=h.hlen;simp;omega,by have:=h.hcap;omega,by have:=h.hmax;omega,λe=>by simp at e,λh0=>?_⟩;obtain⟨b',Me,e,hb,hc⟩:=h.hcell (by omega);cases e;refine⟨b,off+n,rfl,hb,λi hi=>?_⟩;rw[Nat.add_assoc,hc (n+i) (by omega)];simp[List.getD]
def qz(lt:Nat->Nat)(S:List Nat)(j:Nat):List Nat:=(S.take j).map lt
theorem Ye{lt:Nat->Nat}{S:List Nat}{j:Nat}(h:j<S.length):qz lt S (j+1)=qz lt S j++[lt (S.getD j 0)]:=by
 unfold qz;rw[List.take_succ_eq_append_getElem h,aBE];simp[List.getD,aAV h]
theorem aag{lt:Nat->Nat}{S:List Nat}:qz lt S S.length=S.map lt:=by simp[qz]
theorem Ii{B:Nat}{w w':World}(h:Below B w w'):Below B w w'.drew:=⟨h.os,h.tape,h.output,h.size,h.block⟩
section
variable (a1 a2 a3 a4 a5:Option Addr) (l1 c1 l2 c2 l3 c3 l4 c4 l5 c5:Nat) (zs:List Int) (ag:List (List Int)) (ss:List Int) (SA SB:List Nat) (s:ByteArray) (w:World)
theorem Zz(hm:s.size<=maxLen)(h1:Ints w a1 l1 c1 zs)(h2:Lists w a2 l2 c2 ag)(h3:Ints w a3 l3 c3 ss)(h4:Ints w a4 l4 c4 (gW SA))(h5:Ints w a5 l5 c5 (gW SB))(hG:bM zs ag ss=true)(h:(aB s).1=0)
  (hS:qo (aB s).2 zs.length (dA zs) (eF ag) (tT ss) SA SB) :
  Calls Tryz.prog 44 #[.agg #[.slice a1 l1 c1,.slice a2 l2 c2,.slice a3 l3 c3],.string s,.slice a4 l4 c4,.slice a5 l5 c5] w λe w'=>e=.returned (.bool true)/\Below w.heap.size w w':=by
 have ba:=(aAW w.heap.size w).alloc (aAU _) (.cells #[.slice a1 l1 c1,.slice a2 l2 c2,.slice a3 l3 c3] 25);have T0:=hid (dH w (.slice a1 l1 c1) (.slice a2 l2 c2) (.slice a3 l3 c3) 25);have L1:=h1.hlen;have L2:=h2.hlen;have L3:=h3.hlen;have L4:SA.length=l4:=by rw[<-jJ];exact h4.hlen
 have L5:SB.length=l5:=by rw[<-jJ];exact h5.hlen
 obtain⟨g1,g6,g21,Ww,g3,gnu⟩:1<=l1/\l1<=6/\l1=l2/\iT zs=true/\l3≠0/\fI l1 ss=true:=by
  have h9:=hG;unfold bM at h9;rw[L1,L2,L3]at h9;simp only[aBz,aBR]at h9;exact⟨h9.1.1.1.1.1.1,h9.1.1.1.1.1.2,h9.1.1.1.1.2.symm,h9.1.1.1.2,h9.1.1.2,h9.1.2⟩
 subst g21;have Ei:=hid Ww;have qw:=hid L1;have iP:=hid hS;have q1:0<l5:=by have:=IM hS;omega
 have q2:l4+l5<=20000:=by have:=hS.len;omega
 have m1:=h1.hcap;have m2:=h1.hmax;have n1:=h2.hcap;have n2:=h2.hmax;have o1:=h3.hcap;have o2:=h3.hmax;have p4:=h4.hcap;have p4':=h4.hmax;have p5:=h5.hcap;have p5':=h5.hmax;have J1:=hid (h1.below ba);have J2:=hid (h2.below ba);have J3:=hid (h3.below ba);have J4:=hid (h4.below ba);have J5:=hid (h5.below ba);have iQ:=hid ba;have Aa:=hid hG;have C:=hid (λW=>nA s W hm);unfold fK at C;have GD:=hid (pF h);have Y0:=hid (ac4 (pF h) hS (λi hi=>(by
  have h9:=G8 Ww (j:=i) hi;have h8:=l9.1 h9;unfold dA;omega)))
 have asT:=hid (ac3 hS);obtain⟨j0,hj0,hjs⟩:=XG hS;have HJ0:=hid hjs;rw[L3]at hj0;have yK:=hid (λi (hi:i<(SA++SB).length)=>ahl hS i hi);have Eg:=hid (λi (hi:i<(SA++SB).length)=>ZA hS i hi);have hAB:(SA++SB).length=l4+l5:=by rw[aA5,L4,L5]
 have H4L:=hid L4;have H5L:=hid L5;have JF:=hid hAB;have wR:=hid L3;generalize aB s=p at *;obtain⟨p1,ns⟩:=p;dsimp only at *;subst h;have o4:∀ u∈bX SA,u.oneCell'=true:=by rw[<-uR];exact xG _
 have o5:∀ u∈bX SB,u.oneCell'=true:=by rw[<-uR];exact xG _
 have Iw:=hid o4;have Lp:=hid o5;obtain⟨i0,hi,aR,aP,aN⟩:=info_parts Tryz.uB;clear h1 h2 h3 h4 h5 ba L1 L2 L3 L4 L5 Ww gnu hG hm hS hjs hAB o4 o5;go_enter Tryz.func44,Tryz.ntmps44;go_wp2_with fail;refine(C.out _).mono ?_;rintro e w1 ⟨b1,⟨h0,_⟩ | ⟨_,bs,rfl,hf⟩⟩
 ·exact absurd rfl h0
 have T1:=T0.out.below b1 (by simp);have x0:=T1.c0;have x1:=T1.c1;have x2:=T1.c2;have IG:=hid (Ak a1 a2 a3 l1 c1 l1 c2 l3 c3 zs ag ss w1 (J1.out.below b1) (J2.out.below b1) (J3.out.below b1));rw[Aa.out]at IG;rw[aAZ]at hf;have PM:=hid hf;have B1:=hid b1;have Un:=hid T1;clear C b1 hf T1 T0;go_wp2_with fail;refine IG.out.mono ?_;rintro e w2 ⟨rfl,b2⟩;have aK:=hid (iQ.out.trans (B1.out.mono iQ.out.size));have Gv:=hid (PM.out.below b2);have hG1:w.heap.size<w1.heap.size:=Un.out.lt;have uf:=hid (Un.out.below b2 hG1);have B2:=hid (B1.out.trans (b2.mono B1.out.size));have aW:=hid (iQ.out.trans (B2.out.mono iQ.out.size));have Sm:w.heap.size<w2.heap.size:=uf.out.lt;have K1:=hid (J1.out.below B2.out);have K2:=hid (J2.out.below B2.out);have K3:=hid (J3.out.below B2.out);have K4:=hid (J4.out.below B2.out);have K5:=hid (J5.out.below B2.out);clear IG b2 PM Un B1 aK J1 J2 J3 J4 J5 x0 x1 x2 iQ B2 Aa;have e5:((l5:Int)==0)=false:=aA6.2 (by omega);have e6:decide ((20000:Int)<(l4:Int)+(l5:Int))=false:=by simp;omega
 have y0:=uf.out.c0;have y1:=uf.out.c1;have y2:=uf.out.c2;have s4:=K4.out.src;rw[uR]at s4;have N4:=K4.out.hnil;go_wp2_with (at_builtin;go_must (refine lY _ rfl (.tmp 46) (.tmp 47) 22 rfl w2.heap.size 3 i0 (.int .i64 0) 1 8 Tryz.underlying22 hi aR aP aN rfl (by decide) _ 0 [] rfl (aBh _ _ _ _) a4 l4 c4 (bX SA) rfl ?n1 N4 s4 Iw.out ?n2 ?n3 (aAU _) ?_))
 case n1=>simp[bX,H4L.out]
 case n2=>unfold maxLen;omega
 case n3=>omega
 intro v1 w3 ku sK
 try simp only[aBo,List.nil_append]at ku
 have aI:Below w2.heap.size w2 w3:=(aAW _ _).grown sK (aAU _) (λk h=>by cases h);have s5:=(K5.out.below aI).src;rw[uR]at s5;have N5:=(K5.out.below aI).hnil;have vF:=aI.size;have cu:=hid aI;clear aI sK s4 N4;go_wp2_with (at_builtin;go_must (refine lY _ rfl (.tmp 49) (.tmp 50) 22 rfl w2.heap.size 3 i0 (.int .i64 0) 1 8 Tryz.underlying22 hi aR aP aN rfl (by decide) _ l4 (bX SA) rfl ku a5 l5 c5 (bX SB) rfl ?n4 N5 s5 Lp.out ?n5 ?n6 vF ?_))
 case n4=>simp[bX,H5L.out]
 case n5=>unfold maxLen;omega
 case n6=>omega
 intro v2 w4 rY agb;have e1:bX SA++bX SB=bX (SA++SB):=by simp[bX]
 rw[e1]at rY;have B4:=hid (cu.out.grown agb vF (λk h=>(ku.lt k h).1));obtain⟨ao,cap,rfl,hI⟩:=Cy rY JF.out;obtain⟨gP,oP,rfl,hgP,hcP⟩:=hI.hcell (by omega);have HI:=hid hI;have HCP:=hid (λi (hi:i<l4+l5)=>(by
  have h9:=hcP i hi;have h8:(gW (SA++SB)).getD i 0=(((SA++SB).getD i 0:Nat):Int):=by
   have hl9:i<(SA++SB).length:=by rw[JF.out];exact hi
   unfold gW;rw[List.getD,List.getD,aBk,aAV hl9];rfl
  rw[h8]at h9;exact h9:w4.cell? ⟨gP,oP+i,none⟩=some (.int .i64 (((SA++SB).getD i 0:Nat):Int))))
 have cm:=hI.hcap;have cm':=hI.hmax;have NB:=hid (xW (some ⟨gP,oP,none⟩) (l4+l5) cap l1 (gW (SA++SB)) w4 hI);rw[show gW (SA++SB)=(SA++SB).map λ(p:Nat)=>(p:Int) from rfl,show l1=zs.length from qw.out.symm,asT.out,show zs.length=l1 from qw.out]at NB;have Px:=hid (uf.out.below B4.out Sm);have z0:=Px.out.c0;have z1:=Px.out.c1;have z2:=Px.out.c2;have K14:=hid (K1.out.below B4.out);have K24:=hid (K2.out.below B4.out);have K34:=hid (K3.out.below B4.out);have K54:=hid (K5.out.below B4.out);have PL:=hid (Gv.out.below B4.out);have HBA:=hid (aW.out.trans (B4.out.mono (by omega)));have hG4:w.heap.size<w4.heap.size:=Px.out.lt;clear ku rY agb s5 N5 hI hcP e1 K1 K2 K3 K4 K5 Gv uf aW cu B4 y0 y1 y2 vF;go_wp2_with fail;refine NB.out.mono ?_;rintro e w5 ⟨rfl,rfl⟩;clear NB;go_wp2_with fail;have P0:=HCP.out 0 (by omega);rw[Nat.add_zero]at P0;rw[show ((SA++SB).getD 0 0:Nat)=(SA++SB).getD 0 0 from rfl]at P0;obtain⟨bS,oS,eS,hbS,hcS⟩:=K34.out.hcell (by omega);subst eS;have HCS:=hid hcS;clear hcS;have HV0:=hid (rfl:(SA++SB).getD 0 0=(SA++SB).getD 0 0)
 go_loopw [14,15] (λb i wq=>∃ (k:Nat) (bv:Bool),k<=l3/\i=.int .i64 k/\b=.bool bv/\Hid (Below w5.heap.size w5 wq)/\Hid (j0<k->bv=true)) (λ_ i _=>l3 - (intOf i).toNat)
 case atStart=>exact⟨0,false,aA8 _,rfl,rfl,hid (aAW _ _),hid (λh=>by omega)⟩
 case round=>
  obtain⟨k,bv,hk,rfl,rfl,HB,HK⟩:=hrel;rename World=>W0;have z2':=(HB.out.cell (p:=⟨w.heap.size,2,none⟩) hG4).trans z2;have P0':=(HB.out.cell (p:=⟨gP,oP,none⟩) hgP).trans P0;by_cases hlk:k<l3
  ·have ck:=(HB.out.cell (p:=⟨bS,oS+k,none⟩) hbS).trans (HCS.out k hlk);have HJK:Hid (j0=k->ss.getD k 0=(((SA++SB).getD 0 0:Nat):Int)):=hid (λe=>by rw[<-e];exact HJ0.out);have i1:(0:Int)<=(k:Int):=by omega
   have i2:(k:Int)<(l3:Int):=by omega
   have i3:(0:Int)<(l4:Int)+(l5:Int):=by omega
   generalize ss.getD k 0=z at *;cases bv with
   | true=>
    go_wp2_with fail
    go_quiet (fail)
    have aW:=hid (aBd HB.out nq);go_wp2_with fail;go_roundw
    case rel=>exact⟨k+1,true,by omega,by go_num,rfl,aW,hid (λ_=>rfl)⟩
    case measure=>simp[intOf];omega
   | false=>
    generalize (SA++SB).getD 0 0=v0 at *;have HKK:Hid (j0<k+1->(z==(v0:Int))=true):=hid (λh=>by
     by_cases e:j0=k
     ·rw[HJK.out e];simp
     ·exact absurd (HK.out (by omega)) (by simp))
    go_wp2_with fail
    go_quiet (fail)
    have aW:=hid (aBd HB.out nq);go_wp2_with fail;go_roundw
    case rel=>exact⟨k+1,(z==(v0:Int)),by omega,by go_num,rfl,aW,HKK⟩
    case measure=>simp[intOf];omega
  ·obtain rfl:l3=k:=by omega
   obtain rfl:bv=true:=HK.out hj0;have x0:=(HB.out.cell (p:=⟨w.heap.size,0,none⟩) hG4).trans z0;have x1:=(HB.out.cell (p:=⟨w.heap.size,1,none⟩) hG4).trans z1;have x2:=(HB.out.cell (p:=⟨w.heap.size,2,none⟩) hG4).trans z2;have Oc:=HB.out.size;have hG5:w.heap.size<W0.heap.size:=by omega
   have YA:gP<W0.heap.size:=by omega
   have M2:=hid (K24.out.below HB.out);have HPC:=hid (λi (hi:i<l4+l5)=>(HB.out.cell (p:=⟨gP,oP+i,none⟩) hgP).trans (HCP.out i hi));obtain⟨bB,oB,eB,hbB,hcB⟩:=K54.out.hcell q1;subst eB;have cB:=(HB.out.cell (p:=⟨bB,oB+0,none⟩) hbB).trans (hcB 0 q1);rw[Nat.add_zero,show (gW SB).getD 0 0=((SB.headD 0:Nat):Int) by
    cases SB with
    | nil=>rfl
    | cons y ys=>rfl]at cB
   have ash:bB<W0.heap.size:=by omega
   obtain⟨bL,oL,eL,hbL,hcL⟩:=K14.out.hcell (by omega);subst eL;have aen:bL<W0.heap.size:=by omega
   have yM:=hid (λi (hi:i<l1)=>(by
    have h9:=(HB.out.cell (p:=⟨bL,oL+i,none⟩) hbL).trans (hcL i hi);have h8:=l9.1 (G8 Ei.out (j:=i) (by rw[qw.out];exact hi));unfold dA;rw[Int.toNat_of_nonneg h8.1];exact h9:W0.cell? ⟨bL,oL+i,none⟩=some (.int .i64 ((dA zs i:Nat):Int))))
   have UB:=hid (PL.out.below HB.out);have iM:=hid (HBA.out.trans (HB.out.mono (by omega)));clear hcB hcL K14 K24 K34 K54 HCS HCP PL HBA HK HB z0 z1 z2 z2' P0 P0' HJ0 HV0 hlk hk hj0;generalize hGG:w.heap.size=G at *;go_wp2_with fail
   go_loopw [16,17] (λv i wq=>∃ (k:Nat) (vL:Value),k<=l4+l5/\vL=v/\i=.int .i64 k/\Hid (wq.ownsRow W0.heap.size 3 1 v k (bX (qz (dA zs) (SA++SB) k)))/\Hid (Below W0.heap.size W0 wq)) (λ_ i _=>l4+l5 - (intOf i).toNat)
   case atStart=>exact⟨0,_,aA8 _,rfl,rfl,hid (aBh _ _ _ _),hid (aAW _ _)⟩
   case round=>
    obtain⟨k,vL,hk,rfl,rfl,HO,HB⟩:=hrel;rename World=>W1;have hs1:=HB.out.size;by_cases hlk:k<l4+l5
    ·have Vu:=(HB.out.cell (p:=⟨G,0,none⟩) hG5).trans x0;have El:=(HB.out.cell (p:=⟨G,1,none⟩) hG5).trans x1;have Qp:=(HB.out.cell (p:=⟨G,2,none⟩) hG5).trans x2;have cB':=(HB.out.cell (p:=⟨bB,oB,none⟩) ash).trans cB;have ck:=(HB.out.cell (p:=⟨gP,oP+k,none⟩) YA).trans (HPC.out k hlk);have hlA:k<(SA++SB).length:=by rw[JF.out];exact hlk
     have hx:=yK.out k hlA;rw[qw.out]at hx;have hE:=Eg.out k hlA;rw[JF.out]at hE;have HSU:=hid (Ye (lt:=dA zs) hlA);have cL:=(HB.out.cell (p:=⟨bL,oL+(SA++SB).getD k 0,none⟩) aen).trans (yM.out _ hx);have atj:Hid (k+1<l4+l5->W1.cell? ⟨gP,oP+(k+1),none⟩=some (.int .i64 (((SA++SB).getD (k+1) 0:Nat):Int))):=hid (λh=>(HB.out.cell (p:=⟨gP,oP+(k+1),none⟩) YA).trans (HPC.out (k+1) h));generalize hxx:(SA++SB).getD k 0=x at *;generalize fZ:dA zs x=lx at *;have WP:=hid hxx;have HLX:=hid fZ;clear hxx fZ;have i1:(0:Int)<=(k:Int):=by omega
     have i2:(k:Int)<(l4:Int)+(l5:Int):=by omega
     have i3:(0:Int)<(l5:Int):=by omega
     have i4:(0:Int)<=(x:Int):=by omega
     have i5:(x:Int)<(l1:Int):=by omega
     by_cases hn:k+1<l4+l5
     ·rw[aBU hn]at hE;have ck2:=atj.out hn;generalize (SA++SB).getD (k+1) 0=y at *;have RE:=hid (Eu (some ⟨bL,oL,none⟩) a2 (some ⟨bS,oS,none⟩) l1 c1 l1 c2 l3 c3 ag W1.drew x y (M2.out.below (Ii HB.out)) hx);rw[hE]at RE;have j1:(0:Int)<=(k:Int)+1:=by omega
      have j2:(k:Int)+1<(l4:Int)+(l5:Int):=by omega
      go_wp2_with fail
      go_region_with (go_at_call 82;go_must (refine RE.out.mono ?_;rintro e w7 ⟨rfl,b7⟩))
      all_goals
       have oZ:=sP b7;have iG:=hid (HB.out.trans (oZ.mono hs1));have Cz:=ae HO.out oZ;have Us:=hid Cz;have art:=(iG.out.cell (p:=⟨G,0,none⟩) hG5).trans x0;have aeU:=(iG.out.cell (p:=⟨gP,oP+k,none⟩) YA).trans (HPC.out k hlk);rw[show (SA++SB).getD k 0=x from WP.out]at aeU;have aeX:=(iG.out.cell (p:=⟨bL,oL+x,none⟩) aen).trans (yM.out x hx);rw[HLX.out]at aeX;have vE:=iG.out.size;clear b7 oZ Vu El Qp cB' ck cL HO;go_wp2_with fail
       go_region_law ((refine aBN _ (by rfl) (.tmp 108) (.tmp 117) 22 (by rfl) W0.heap.size 3 i0 (.int .i64 0) 1 8 Tryz.underlying22 hi aR aP aN rfl (by decide) vL k (bX (qz (dA zs) (SA++SB) k)) (by rfl) (Cz.alloc _).drew ⟨w7.heap.size,0,none⟩ 1 1 [.int .i64 lx] (by rfl) (by rfl) (World.news_of_block (cs:=#[.int .i64 lx]) (t:=3) (fr:=(0,0)) (heap_alloc_last w7 _)) (by simp[Value.oneCell']) (by decide) (by unfold maxLen;omega) (by omega) (by simp;omega) _ rfl ?_;intro gg cc w8 hown hgrow hat iw))
       all_goals
        have bw8:Below W0.heap.size w7 w8:=(aBd ((aAW W0.heap.size w7).alloc vE (.cells #[.int .i64 lx] 3)) 1).grown hgrow (by show W0.heap.size<=(w7.alloc (.cells #[.int .i64 lx] 3)).heap.size;rw[aAZ];omega) (λk h=>(Cz.lt k h).1);have e1:bX (qz (dA zs) (SA++SB) k)++[.int .i64 (lx:Nat)]=bX (qz (dA zs) (SA++SB) (k+1)):=by rw[HSU.out];simp[bX]
        rw[e1]at hown;have HO8:=hid hown;have Cc:=hid (iG.out.trans bw8);clear hown hgrow hat bw8 Cz iG Us e1;go_wp2_with fail;go_roundw
        case rel=>exact⟨k+1,_,by omega,rfl,by go_num,HO8,Cc⟩
        case measure=>simp[intOf];omega
     ·rw[aBT hn]at hE;generalize SB.headD 0=y at *;have RE:=hid (Eu (some ⟨bL,oL,none⟩) a2 (some ⟨bS,oS,none⟩) l1 c1 l1 c2 l3 c3 ag W1.drew x y (M2.out.below (Ii HB.out)) hx);rw[hE]at RE;have j2:decide ((k:Int)+1<(l4:Int)+(l5:Int))=false:=by simp;omega
      go_wp2_with fail
      go_region_with (go_at_call 82;go_must (refine RE.out.mono ?_;rintro e w7 ⟨rfl,b7⟩))
      all_goals
       have oZ:=sP b7;have iG:=hid (HB.out.trans (oZ.mono hs1));have Cz:=ae HO.out oZ;have Us:=hid Cz;have art:=(iG.out.cell (p:=⟨G,0,none⟩) hG5).trans x0;have aeU:=(iG.out.cell (p:=⟨gP,oP+k,none⟩) YA).trans (HPC.out k hlk);rw[show (SA++SB).getD k 0=x from WP.out]at aeU;have aeX:=(iG.out.cell (p:=⟨bL,oL+x,none⟩) aen).trans (yM.out x hx);rw[HLX.out]at aeX;have vE:=iG.out.size;clear b7 oZ Vu El Qp cB' ck cL HO;go_wp2_with fail
       go_region_law ((refine aBN _ (by rfl) (.tmp 108) (.tmp 117) 22 (by rfl) W0.heap.size 3 i0 (.int .i64 0) 1 8 Tryz.underlying22 hi aR aP aN rfl (by decide) vL k (bX (qz (dA zs) (SA++SB) k)) (by rfl) (Cz.alloc _).drew ⟨w7.heap.size,0,none⟩ 1 1 [.int .i64 lx] (by rfl) (by rfl) (World.news_of_block (cs:=#[.int .i64 lx]) (t:=3) (fr:=(0,0)) (heap_alloc_last w7 _)) (by simp[Value.oneCell']) (by decide) (by unfold maxLen;omega) (by omega) (by simp;omega) _ rfl ?_;intro gg cc w8 hown hgrow hat iw))
       all_goals
        have bw8:Below W0.heap.size w7 w8:=(aBd ((aAW W0.heap.size w7).alloc vE (.cells #[.int .i64 lx] 3)) 1).grown hgrow (by show W0.heap.size<=(w7.alloc (.cells #[.int .i64 lx] 3)).heap.size;rw[aAZ];omega) (λk h=>(Cz.lt k h).1);have e1:bX (qz (dA zs) (SA++SB) k)++[.int .i64 (lx:Nat)]=bX (qz (dA zs) (SA++SB) (k+1)):=by rw[HSU.out];simp[bX]
        rw[e1]at hown;have HO8:=hid hown;have Cc:=hid (iG.out.trans bw8);clear hown hgrow hat bw8 Cz iG Us e1;go_wp2_with fail;go_roundw
        case rel=>exact⟨k+1,_,by omega,rfl,by go_num,HO8,Cc⟩
        case measure=>simp[intOf];omega
    ·obtain rfl:k=l4+l5:=by omega
     have adB:=HO.out;rw[<-JF.out,aag,JF.out,aBE]at adB;obtain⟨ao,qL,rfl,Wq⟩:=Cy adB (by rw[<-aBE,aBG,JF.out]);obtain⟨gR,oR,rfl,We,_⟩:=Wq.hcell (by omega);have hcL:=Wq.hcap;have aye:=Wq.hmax;have IA:=aaC Wq (n:=l4) (by omega);have IB:=aaD Wq (n:=l4) (by omega);rw[CL,List.take_left' (by rw[jJ,aBG,H4L.out])]at IA;rw[CL,List.drop_left' (by rw[jJ,aBG,H4L.out]),show l4+l5 - l4=l5 by omega]at IB;have h8:∀ x∈SA++SB,dA zs x<8:=λx hx=>by
      have hx2:=iP.out.lt_ x hx;have h9:=l9.1 (G8 Ei.out (j:=x) hx2);unfold dA;omega
     have OF:=hid (ah0 (G+1) ns bs (some ⟨gR,oR,none⟩) (some ⟨gR,oR+l4,none⟩) l4 qL l5 (qL - l4) (gW (SA.map (dA zs))) (gW (SB.map (dA zs))) W1.drew ((UB.out.below HB.out).drew) GD.out
      ⟨by rw[jJ,aBG,H5L.out];exact q1,by rw[jJ,jJ,aBG,aBG,H4L.out,H5L.out];exact q2,
       Pp (λx hx=>by obtain⟨y,hy,rfl⟩:=aBM.1 hx;exact h8 y (List.mem_append_left _ hy)),
       Pp (λx hx=>by obtain⟨y,hy,rfl⟩:=aBM.1 hx;exact h8 y (List.mem_append_right _ hy))⟩ IA.drew IB.drew)
     unfold BH at OF;rw[<-CL,Yc,jJ,aBG,<-aBE,Y0.out]at OF;have Ab:=hid (iM.out.trans (HB.out.mono (by omega)));have j1:(0:Int)<=(l4:Int):=by omega
     have j2:(l4:Int)<=(qL:Int):=by omega
     have j3:(l4:Int)<=(l4:Int)+(l5:Int):=by omega
     have j4:(l4:Int)+(l5:Int)<=(qL:Int):=by omega
     have j5:¬ qL=l4:=by omega
     have j6:l4<qL:=by omega
     have ma:G<=W1.heap.size:=by omega
     clear adB Wq IA IB h8 HO HB UB;go_wp2_with fail
     go_region_with (go_at_call 85;go_must (refine OF.out.mono ?_;rintro e w9 ⟨rfl,b9⟩))
     all_goals
      have PO:=hid (Ab.out.trans ((sP b9).mono ma));clear b9;go_wp2_with fail;go_ret;exact⟨rfl,by rw[hGG];exact PO.out⟩
end
theorem Ku{E:Nat->Nat->Prop}:∀ {l m:List Nat} {e:Nat},Goes E (l++m) e->Goes E l (m.headD e)/\Goes E m e
 | [],m,e,h=>⟨trivial,h⟩
 | a::l,m,e,⟨h1,h2⟩=>by
  obtain⟨h3,h4⟩:=Ku h2;refine⟨⟨?_,h3⟩,h4⟩;have h5:E a ((l++m).headD e):=h1;rw[rA]at h5;exact h5
theorem aet{n:Nat}{ed:Nat->Nat->Bool}{st:Nat->Bool}{SA SB:List Nat}(ne:SB≠[])(hlt:∀ p∈SA++SB,p<n)(asg:st ((SA++SB).headD 0)=true)(hgo:Goes (λa b=>ed a b=true) (SA++SB) (SB.headD 0)):Qo n ed st (rowAt SA SB):=by
 have hb:0<SB.length:=List.length_pos_iff.2 ne;obtain⟨g1,g2⟩:=Ku hgo;have hh:SB.headD (SB.headD 0)=SB.headD 0:=by cases SB with
  | nil=>rfl
  | cons b l=>rfl
 rw[hh]at g1;have hp:=(JP (cs:=[]) g1 ⟨ne,rfl,g2,λc hc=>by cases hc⟩).1;have hin:∀ t,rowAt SA SB t∈SA++SB:=λt=>by
  unfold rowAt;by_cases c:t<SA.length
  ·rw[aBU c,List.getD,aAV c];exact List.mem_append_left _ (List.getElem_mem c)
  ·have c2:(t - SA.length) % SB.length<SB.length:=Nat.mod_lt _ hb;rw[aBT c,List.getD,aAV c2];exact List.mem_append_right _ (List.getElem_mem c2)
 have h0:rowAt SA SB 0=(SA++SB).headD 0:=by
  unfold rowAt;cases SA with
  | nil=>
   cases SB with
   | nil=>simp at hb
   | cons b B=>simp
  | cons a A=>simp
 exact⟨by rw[h0];exact asg,λt=>⟨hlt _ (hin t),hp t⟩⟩
theorem adq{lt:Nat->Nat}{SA SB:List Nat}(hb:0<SB.length):(λt=>lt (rowAt SA SB t))=qd (SA.map lt) (SB.map lt):=by
 funext i;unfold qd rowAt;simp only[aBG];by_cases c:i<SA.length
 ·rw[aBU c,aBU c];simp[List.getD,aAV c]
 ·rw[aBT c,aBT c];have c2:(i - SA.length) % SB.length<SB.length:=Nat.mod_lt _ hb;simp[List.getD,aAV c2]
theorem Zy{ns:List Nd}{n:Nat}{lt:Nat->Nat}{ed:Nat->Nat->Bool}{st:Nat->Bool}{SA SB:List Nat}(h:qo ns n lt ed st SA SB):¬ pV ns n lt ed st:=λhh=>by
 have:=hh _ (aet h.ne h.lt_ h.begins h.go);rw[adq (IM h)]at this;exact h.ai0 this
