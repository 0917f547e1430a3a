import Derived.Test.YtjagijohfkffiabGreatFREM23
set_option maxHeartbeats 16000000
set_option maxRecDepth 100000
set_option linter.unusedSimpArgs false
namespace Go.Proofs.YtjagijohfkffiabGreat
open Go.RowKit
set_option linter.unusedVariables false
structure UM (N:Nat) (to:Nat->List Nat) (good out:Nat->Bool) (i:Nat):Prop where
 p1:∀ x,out x=true->∃ c,c<i/\good c=true/\reach (Ed N to) x c
 p2:∀ x c,c<i->good c=true->reach (Ed N to) x c->out x=true
theorem aeL(N:Nat)(to:Nat->List Nat)(good:Nat->Bool):UM N to good (λ_=>false) 0:=⟨λx h=>(by cases h),λx c h=>(by omega)⟩
theorem ais{N i:Nat}{to:Nat->List Nat}{good out:Nat->Bool}(h:UM N to good out i)(hs:good i=false\/out i=true):UM N to good out (i+1):=by
 refine⟨λx hx=>?_,λx c hc hg hr=>?_⟩
 ·obtain⟨c,h1,h2⟩:=h.p1 x hx;exact⟨c,by omega,h2⟩
 ·by_cases e:c=i
  ·subst e;rcases hs with hs | hs
   ·rw[hs]at hg;cases hg
   ·obtain⟨d,hd,lX,hrd⟩:=h.p1 c hs;exact h.p2 x d hd lX (dU hr hrd)
  ·exact h.p2 x c (by omega) hg hr
def Dz(out l:Nat->Bool)(x:Nat):Nat->Bool:=λi=>if i<x then out i||l i else out i
theorem ahV(out l:Nat->Bool):Dz out l 0=out:=by funext i;simp[Dz]
theorem ahX(out l:Nat->Bool)(x:Nat):Dz out l x x=out x:=by simp[Dz]
theorem ahW(out l:Nat->Bool)(x:Nat):upd (Dz out l x) x (out x||l x)=Dz out l (x+1):=by
 funext i;unfold upd Dz;by_cases e:i=x
 ·subst e;rw[aBU rfl,aBU (by omega)]
 ·rw[aBT e];by_cases e2:i<x
  ·rw[aBU e2,aBU (by omega)]
  ·rw[aBT e2,aBT (by omega)]
theorem PS{N:Nat}{to:Nat->List Nat}{a b:Nat}(h:reach (Ed N to) a b):a<N:=by
 obtain⟨L,c,h1,_⟩:=h;exact h1.1
theorem ak7{N i:Nat}{to:Nat->List Nat}{good out l:Nat->Bool}(h:UM N to good out i)(hg:good i=true)(hl:∀ x,l x=true↔reach (Ed N to) x i):UM N to good (Dz out l N) (i+1):=by
 refine⟨λx hx=>?_,λx c hc Bj hr=>?_⟩
 ·have key:out x=true\/l x=true:=by
   unfold Dz at hx;by_cases e:x<N
   ·rw[aBU e,aBF]at hx;exact hx
   ·rw[aBT e]at hx;exact aA2 hx
  rcases key with k | k
  ·obtain⟨c,h1,h2⟩:=h.p1 x k;exact⟨c,by omega,h2⟩
  ·exact⟨i,by omega,hg,(hl x).1 k⟩
 ·unfold Dz;rw[aBU (PS hr),aBF];by_cases e:c=i
  ·subst e;exact aA3 ((hl x).2 hr)
  ·exact aA2 (h.p2 x c (by omega) Bj hr)
theorem ak6{N K:Nat}{to:Nat->List Nat}{kp:Nat->Nat->Bool}{good out:Nat->Bool}(h:UM N to good out N)(hg:∀ i,i<N->(good i=true↔GN N to K kp i))(x:Nat):out x=true↔∃ c,c<N/\reach (Ed N to) x c/\GN N to K kp c:=by
 constructor
 ·intro hx;obtain⟨c,h1,h2,h3⟩:=h.p1 x hx;exact⟨c,h1,h3,(hg c h1).1 h2⟩
 ·rintro ⟨c,h1,h2,h3⟩;exact h.p2 x c h1 ((hg c h1).2 h3) h2
theorem Ig(HT:MU)(P N K:Nat)(to:Nat->List Nat)(kp:Nat->Nat->Bool)(w:World)(hn:pq w P N to K kp)(hN0:0<N)(hto:∀ a,a<N->∀ b∈to a,b<N)(hlen:∀ a,a<N->(to a).length<=4398046511104)(yw:∀ a,a<N->∀ j,(to a).count j<=8)(hN:N<=274877906944)(hK:K<=65536) :
  Calls Tryz.prog 75 #[.pointer (some ⟨P,0,none⟩)] w λe w'=>∃ g out,e=.returned (.slice (some ⟨g,0,none⟩) N N)/\w.heap.size<=g/\BO w' w.heap.size g N out/\(∀ i,out i=true↔∃ c,c<N/\reach (Ed N to) i c/\GN N to K kp c)/\Below w.heap.size w w':=by
 have RN:=hid (ZN HT P N K to kp w hn hN0 hto hlen yw hN hK);have IE:=hid hn;obtain⟨i0,hi,aR,aP,aN⟩:=info_parts Tryz.eD;have zX:=hid hto;have Ls:=hid hlen;have Xh:=hid yw;have WQ:=hid HT;clear hn hto hlen yw HT;go_enter Tryz.func75,Tryz.ntmps75;go_wp2_with fail;refine RN.out.mono ?_;rintro e w1 ⟨gg,good,rfl,Hy,OG,zC,aM⟩;have HOG:=hid OG;have Xc:=hid zC;have aK:=hid aM;have uC:=aM.size;have hlg:=OG.blk.2;clear OG zC aM RN;go_wp2_with (at_make;go_must (refine aBA _ rfl (.tmp 12) (.tmp 12) 132 rfl w.heap.size 4 i0 (.bool false) 1 Tryz.underlying132 hi aR aP .i64 .i64 N N N rfl rfl rfl rfl ?m2 ?m3 uC ?_))
 case m2=>rw[aN];omega
 case m3=>unfold maxLen;omega
 intro w2 dR lM;have eo:(madeCells #[Value.bool false] N).toList=List.replicate N (.bool false):=aBq _ _;rw[eo,<-dh (λ_=>false),show ay (λ_=>false) N 0=ay (λ_=>false) N N by simp[ay]]at dR;have OO:Hid (BO w2 w.heap.size w1.heap.size N (λ_=>false)):=hid dR;have OG2:=hid (HOG.out.grown lM);have RQ:=OO.out.blk.2;have ak:=aK.out.grown lM uC (λk h=>by cases h);have oO:=ak.size;have aW:=hid ak;clear dR lM eo HOG aK ak;generalize hg1:w1.heap.size=g1 at *;go_wp2_with fail;refine(WQ.out P N K to kp w2 (IE.out.below aW.out) hN0 zX.out Ls.out Xh.out hN).mono ?_;rintro e w3 ⟨P2,tl,rfl,ST,DJ,jW,aI⟩;have mI:=hid ST;have Gr:=hid DJ;have qw:=hid jW;have OG3:=hid (OG2.out.keeps aI);have OO3:=hid (OO.out.keeps aI);have ER:=aI.size;have cu:=hid (aW.out.trans (aI.mono oO));have ng1:gg≠g1:=by omega
 have dV:=cu.out.size;clear OG2 OO aW aI ST DJ jW;go_wp2_with fail
 go_loopw [6] (λi wq=>∃ (c:Nat) (out:Nat->Bool),c<=N/\i=.int .i64 c/\Hid (UM N to good out c)/\Hid (BO wq w.heap.size gg N good)/\Hid (BO wq w.heap.size g1 N out)/\Hid (jX w2.heap.size w3 wq)/\Below w.heap.size w wq) (λi _=>N - (intOf i).toNat)
 case atStart=>exact⟨0,_,aA8 _,rfl,hid (aeL _ _ _),OG3,OO3,hid (jX.refl _ _),cu.out⟩
 case round=>
  obtain⟨c,out,hc,rfl,HE,HG,HO,HS,hb⟩:=hrel;rename World=>W0;by_cases hlc:c<N
  ·have d1:=HG.out.get hlc;have d2:=HO.out.get hlc;have pu:=hid (λh=>ais HE.out (i:=c) h);have Xj:=hid (λh l=>ak7 HE.out (i:=c) h (l:=l));generalize good c=gv at *;generalize out c=ov at *;cases gv with
   | false=>
    have HE2:=hid (pu.out (aA2 rfl));clear pu Xj;go_wp2_with fail;go_roundw
    case rel=>exact⟨c+1,out,by omega,by go_num,HE2,HG,HO,HS,hb⟩
    case measure=>simp[intOf];omega
   | true=>
    cases ov with
    | true=>
     have HE2:=hid (pu.out (aA3 rfl));clear pu Xj;go_wp2_with fail;go_roundw
     case rel=>exact⟨c+1,out,by omega,by go_num,HE2,HG,HO,HS,hb⟩
     case measure=>simp[intOf];omega
    | false=>
     have tu:=hid (Xj.out rfl);clear pu Xj;have hsq:=hb.size;have FB:=hid (Jl P2 N 0 c tl kp W0 (mI.out W0 HS.out) (λx hx y hy=>((Gr.out x y).1 hy).1) (λx hx=>by have:=qw.out x;omega) hlc (by omega));go_wp2_with fail;refine FB.out.mono ?_;rintro e w6 ⟨gb,l,rfl,Hz,OB,hbR,jG⟩;have HL0:Hid (BO w6 w.heap.size gb N l):=hid (BO.base (show BO w6 W0.heap.size gb N l from OB) hsq);have HBR:Hid (∀ x,l x=true↔reach (Ed N to) x c):=hid (λx=>(hbR x).trans (JR zX.out Gr.out));have HE2:=hid (tu.out l HBR.out);have F1:=hid (HG.out.keeps jG);have F2:Hid (BO w6 w.heap.size g1 N (Dz out l 0)):=hid (by rw[ahV];exact HO.out.keeps jG);have F4:=hid (HS.out.below jG);have hso:=HO.out.blk.2;have Cc:=hid (hb.trans (jG.mono hsq));clear FB OB hbR jG tu HG HO HS d1 d2 hb;go_wp2_with fail
     go_loopw [8] (λi wq=>∃ (x:Nat),x<=N/\i=.int .i64 x/\Hid (BO wq w.heap.size gg N good)/\Hid (BO wq w.heap.size g1 N (Dz out l x))/\Hid (BO wq w.heap.size gb N l)/\Hid (jX w2.heap.size w3 wq)/\Below w.heap.size w wq) (λi _=>N - (intOf i).toNat)
     case atStart=>exact⟨0,aA8 _,rfl,F1,F2,HL0,F4,Cc.out⟩
     case round=>
      obtain⟨x,hx,rfl,G1,G2,G3,G4,sJ⟩:=hrel;by_cases fZ:x<N
      ·have s1:=G2.out.fz x;have s2:=G2.out.get fZ;have s3:=G3.out.get fZ;have m1:gb≠g1:=by omega
       rw[ahX]at s2;have A2:=G2.out.set x (out x||l x);rw[ahW]at A2;have C2:=hid A2;have C1:=hid (G1.out.other G2.out ng1 x (.bool (out x||l x)));have C3:=hid (G3.out.other G2.out m1 x (.bool (out x||l x)));have C4:=hid (G4.out.set (k:=g1) (by omega) x (.bool (out x||l x)));have HBX:=hid (sJ.setCell (p:=⟨g1,x,none⟩) (by show w.heap.size<=g1;omega) (.bool (out x||l x)));clear A2 G1 G2 G3 G4;generalize out x=ov at *;generalize l x=lv at *;cases ov with
       | true=>
        go_wp2_with fail;go_roundw
        case rel=>exact⟨x+1,by omega,by go_num,C1,C2,C3,C4,HBX.out⟩
        case measure=>simp[intOf];omega
       | false=>
        rw[Bool.false_or]at C1 C2 C3 C4 HBX;go_wp2_with fail;go_roundw
        case rel=>exact⟨x+1,by omega,by go_num,C1,C2,C3,C4,HBX.out⟩
        case measure=>simp[intOf];omega
      ·obtain rfl:x=N:=by omega
       go_wp2_with fail;go_roundw
       case rel=>exact⟨c+1,_,by omega,by go_num,HE2,G1,G2,G4,sJ⟩
       case measure=>simp[intOf];omega
  ·obtain rfl:c=N:=by omega
   have UC:=hid (ak6 HE.out Xc.out);have ase:w.heap.size<=g1:=by omega
   go_wp2_with fail;go_ret;exact⟨g1,out,rfl,ase,HO.out,UC.out,hb⟩
def bD(vs:List Nat)(i:Nat):Nat->Bool:=kP (df vs i)
def qX(ns:List Nd)(vs:List Nat)(i k:Nat):List Nat:=(List.range k).filter λq=>CZ ns (bD vs i) (bD vs q)
def toS(ns:List Nd)(vs:List Nat)(i:Nat):List Nat:=qX ns vs i vs.length
def wK(ns:List Nd)(vs:List Nat)(k i:Nat):Bool:=ic (aA ns k) k (bD vs i)
theorem ahe{ns:List Nd}{vs:List Nat}{i k:Nat}(h:CZ ns (bD vs i) (bD vs k)=true):qX ns vs i (k+1)=qX ns vs i k++[k]:=by simp[qX,aBL,List.filter_append,h]
theorem aiV{ns:List Nd}{vs:List Nat}{i k:Nat}(h:CZ ns (bD vs i) (bD vs k)=false):qX ns vs i (k+1)=qX ns vs i k:=by simp[qX,aBL,List.filter_append,h]
theorem LQ(ns:List Nd)(vs:List Nat)(i k:Nat):(qX ns vs i k).length<=k:=by
 have:=List.length_filter_le (λq=>CZ ns (bD vs i) (bD vs q)) (List.range k);simpa [qX] using this
theorem mD(l:List Nat):(aD l).length=l.length:=by simp[aD]
theorem LY{w:World}{B N:Nat}{v:Value}{V:Nat->Value}{to:Nat->List Nat}(h:iE w B 22 3 v N V (λq=>aD (to q))):K8 w v N to:=by
 rcases h.out.2 with⟨rfl,h0⟩ | ⟨g,cap,cur,rfl,hb,hh,hc,hm,_⟩
 ·exact⟨none,0,by rw[h0],by omega,λh=>by omega⟩
 ·refine⟨_,cap,rfl,hc,λ_=>⟨g,rfl,dB hh,λi hi=>⟨V i,?_,?_⟩⟩⟩
  ·rw[h.out.cellAt i (by omega)];simp[aBk,aBx hi]
  ·have:=h.row i hi;rw[mD]at this;exact AY this
theorem ahG{w:World}{B K N:Nat}{v:Value}{V:Nat->Value}{kp:Nat->Nat->Bool}(h:iE w B 132 4 v K V (λq=>ay (kp q) N N))(hV:∀ i,i<K->∃ b,V i=.slice (some ⟨b,0,none⟩) N N):PQ w v K N kp:=by
 rcases h.out.2 with⟨rfl,h0⟩ | ⟨g,cap,cur,rfl,hb,hh,hc,hm,_⟩
 ·exact⟨none,0,by rw[h0],by omega,λh=>by omega⟩
 ·refine⟨_,cap,rfl,hc,λ_=>⟨g,rfl,dB hh,λi hi=>?_⟩⟩;obtain⟨b,hb⟩:=hV i hi;have hr:=h.row i hi;have hl:(ay (kp i) N N).length=N:=by simp[ay]
  simp only[hl,hb]at hr;refine⟨b,?_,?_,λq hq=>?_⟩
  ·rw[h.out.cellAt i (by omega)];simp[aBk,aBx hi,hb]
  ·rcases hr.2 with⟨e,h0⟩ | ⟨g',cap',ass,e,_,R7,_⟩
   ·cases e
   ·cases e;exact dB R7
  ·rw[hr.cellAt q (by omega)];exact jM (kp i) N q hq
theorem ah3(F gp cap Bs:Nat)(ns:List Nd)(bs vs:List Nat)(v:Value)(w:World)(hf:FR w F gp cap ns bs)(hg:Good ns)(hs:wF w Bs v ns.length vs)(hN:vs.length<=256) :
  Calls Tryz.prog 74 #[.pointer (some ⟨F,0,none⟩),v] w λe w'=>e=.returned (.pointer (some ⟨w.heap.size,0,none⟩))/\pq w' w.heap.size vs.length (toS ns vs) ns.length (wK ns vs)/\Below w.heap.size w w':=by
 have dw:=hg.le;have hpos:=hg.pos;have k0:=hf.c0;have kc:=hf.hcap;have hF:=hf.Rl;obtain⟨bb,so,sr⟩:=hs;obtain⟨ao,acO,rfl⟩:=ai so;have hvc:vs.length<=acO:=by
  rcases so.2 with⟨e,h0⟩ | ⟨g,cp,cur,e,_,_,hc,_⟩
  ·omega
  ·cases e;exact hc
 have SC:Hid (∀ i,i<vs.length->∃ gs,ao=some ⟨gs,0,none⟩/\gs<w.heap.size/\w.cell? ⟨gs,i,none⟩=some (.slice (some ⟨bb i,0,none⟩) ns.length ns.length)):=hid (λi hi=>by
  obtain⟨gs,e,_,nV,_⟩:=dX so (by omega);subst e;refine⟨gs,rfl,nV,?_⟩;rw[so.cellAt i (by omega)];simp[aBk,aBx hi,gD])
 have SR:Hid (∀ i,i<vs.length->Rb w (bb i) ns.length (bD vs i)):=hid (λi hi=>QH hpos (sr i hi));obtain⟨i0,hi,aR,aP,aN⟩:=info_parts Tryz.lW;obtain⟨i1,iC,fe,eZ,eY⟩:=info_parts Tryz.ym;obtain⟨i2,zA,aea,ad8,ad6⟩:=info_parts Tryz.eD;obtain⟨i3,hi3,ad9,ad7,ad5⟩:=info_parts Tryz.EP;have FO:=hid (λ(W:World) (i k:Nat) (h1:Below w.heap.size w W) (hi:i<vs.length) (hk:k<vs.length)=>Vq F gp cap (bb i) (bb k) ns.length ns.length ns bs (bD vs i) (bD vs k) W (hf.below h1) ((SR.out i hi).below h1) ((SR.out k hk).below h1) hg (aAU _) (aAU _));have KE:=hid (λ(W:World) (i k:Nat) (h1:Below w.heap.size w W) (hi:i<vs.length) (hk:k<ns.length)=>Rp F gp cap (bb i) ns.length ns bs (bD vs i) W k hk (hf.below h1) ((SR.out i hi).below h1) hg (aAU _));clear so sr SR hf hg;have Li:Hid (∀ i,toS ns vs i=qX ns vs i vs.length):=hid (λi=>rfl);generalize vs.length=N at *;generalize ns.length=n at *;go_enter Tryz.func74,Tryz.ntmps74;go_wp2_with fail
 go_loopw [6] (λi wr=>∃ (j:Nat) (v1:Value) (V:Nat->Value),j<=N/\i=.int .i64 j/\Below w.heap.size w wr/\Two wr w.heap.size v1 (.slice none 0 0)/\Hid (iE wr (w.heap.size+1) 22 3 v1 j V (λq=>aD (toS ns vs q)))) (λi _=>N - (intOf i).toNat)
 case atStart=>exact⟨0,_,λ_=>.bool false,aA8 _,rfl,(aAW _ _).alloc (aAU _) _,dD w _ _ _,hid (xz _ _ _ _ _ _)⟩
 case round=>
  obtain⟨j,v1,V,hj,rfl,hb,q1,HL⟩:=hrel;rename World=>W0;have hM:=q1.lt;by_cases hlt:j<N
  ·have PD:=hid q1;clear q1;go_wp2_with fail
   go_loopw [8,7] (λi s wq=>∃ (k:Nat),k<=N/\i=.int .i64 k/\Below W0.heap.size W0 wq/\Hid (wq.ownsRow W0.heap.size 3 1 s (qX ns vs j k).length (aD (qX ns vs j k)))) (λi _ _=>N - (intOf i).toNat)
   case atStart=>exact⟨0,aA8 _,rfl,aAW _ _,hid (by simpa [qX,aD] using aBh _ _ _ _)⟩
   case round=>
    obtain⟨k,hk,rfl,dm,HO⟩:=hrel;have hsz:=dm.size;have ib:Below w.heap.size w wr:=hb.trans (dm.mono hb.size);by_cases hlk:k<N
    ·obtain⟨gs,e,nV,ci⟩:=SC.out j hlt;subst e;obtain⟨Wt,e,_,ck⟩:=SC.out k hlk;cases e;have ci':=(ib.cell (p:=⟨gs,j,none⟩) nV).trans ci;have ck':=(ib.cell (p:=⟨gs,k,none⟩) nV).trans ck;have C:=λm=>FO.out (wr.drewN m) j k (aBd ib m) hlt hlk;have HYE:=hid (ahe (ns:=ns) (vs:=vs) (i:=j) (k:=k));have nI:=hid (aiV (ns:=ns) (vs:=vs) (i:=j) (k:=k));have DJ:=LQ ns vs j k;generalize CZ ns (bD vs j) (bD vs k)=fv at *;go_wp2_with fail
     go_quiet ((go_at_call 121;exact Calls.quiet_of (C _)))
     cases fv
     ·go_wp2_with fail;go_roundw
      case rel=>exact⟨k+1,by omega,by go_num,aBd dm _,by rw[nI.out rfl];exact hid (ae HO.out (aBd (aAW _ _) _))⟩
      case measure=>simp[intOf];omega
     ·have own:=ae HO.out (aBd (aAW wr.heap.size wr) nq);have Sg:=aBd dm nq;have hsd:=Sg.size;have HY:=hid (HYE.out rfl);have UI:=hid Sg;clear HO dm Sg C HYE nI;generalize wr.drewN nq=W2 at *;generalize qX ns vs j k=tl at *;go_wp2_with (at_builtin;go_must (refine wpList_append_own _ rfl (.tmp 38) (.tmp 40) 22 rfl W0.heap.size 3 i0 (.int .i64 0) 1 8 Tryz.underlying22 hi aR aP aN rfl (by decide) _ _ _ rfl (own.alloc _) ⟨W2.heap.size,0,none⟩ 1 1 [.int .i64 k] rfl rfl ?c1 ?c2 ?c3 ?c4 ?c5 ?_))
      case c1=>intro q u hq;rw[xI,aBo,aBQ];simpa using hq
      case c2=>intro u hu;simp at hu;subst hu;rfl
      case c3=>unfold maxLen;omega
      case c4=>omega
      case c5=>simp;omega
      intro v' w1 hown hgrow _;have B1:=hid ((UI.out.alloc hsd _).grown hgrow (by simp;omega) (λk h=>(own.lt k h).1));rw[show aD tl++[.int .i64 (k:Nat)]=aD (tl++[k]) by simp[aD],show tl.length+1=(tl++[k]).length by simp,<-HY.out]at hown;have O1:=hid hown;clear hown hgrow own;go_wp2_with fail;go_roundw
      case rel=>exact⟨k+1,by omega,by go_num,B1.out,O1⟩
      case measure=>simp[intOf];omega
    ·obtain rfl:k=N:=by omega
     have O6:=HO.out;rw[<-Li.out]at O6;have DJ:(toS ns vs j).length<=k:=by rw[Li.out];exact LQ ns vs j k
     have L:=HL.out.keeps dm;have t1:=PD.out.below dm hM;have k1:=t1.c0;have BB:=hid ib;obtain⟨ao6,wD,hv6⟩:=ai O6;subst hv6;have h6:=hid (bJ O6 (B':=w.heap.size+1) (by omega));have qw:=hid L;have T1:=hid t1;have l1:=L.out;have arz:=ib.size;clear O6 HO L t1 dm HL PD ib;generalize Yp:(toS ns vs j).length=acU at *;have Gr:Hid ((aD (toS ns vs j)).length=acU):=hid (by rw[mD];exact Yp);clear Yp;go_wp2_with (at_builtin;go_must (refine aBw _ rfl (.tmp 46) (.tmp 48) 23 rfl (w.heap.size+1) 22 i1 (.slice none 0 0) 1 24 Tryz.underlying23 iC fe eZ eY rfl (by decide) _ _ _ rfl (l1.alloc _) ⟨wr.heap.size,0,none⟩ 1 1 [.slice ao6 acU wD] rfl rfl ?d1 ?d2 (by decide) ?d3 ?d4 ?d5 _ rfl ?_))
     case d1=>intro q u hq;rw[xI,aBo,aBQ];simpa using hq
     case d2=>intro u hu;simp at hu;subst hu;rfl
     case d3=>unfold maxLen;omega
     case d4=>omega
     case d5=>simp;omega
     intro g2 kE w2 hown hgrow hat gu;have bR:Below (w.heap.size+1) wr w2:=((aAW _ _).alloc (by omega) _).grown hgrow (by simp;omega) (λk h=>(l1.lt k h).1);have L2:=oI (qw.out.keeps ((aAW _ _).alloc (aAU _) (.cells #[.slice ao6 acU wD] 22))) (by show World.ownsRow _ _ _ _ _ (aD (toS ns vs j)).length _;rw[Gr.out];exact h6.out.alloc _) (by decide) hgrow hown;have s1:=T1.out.below bR (by omega);have L3:=hid (L2.set (k:=w.heap.size) (by omega) 0 (.slice (some ⟨g2,0,none⟩) (j+1) kE));have V1:=hid (s1.set0 (.slice (some ⟨g2,0,none⟩) (j+1) kE));have e0:=s1.c0;have e1:=s1.f0;have UN:=hid ((BB.out.trans (bR.mono (by omega))).setCell (p:=⟨w.heap.size,0,none⟩) (aAU _) (.slice (some ⟨g2,0,none⟩) (j+1) kE));clear hown hgrow hat L2 s1 bR l1 k1;go_wp2_with fail;go_roundw
     case rel=>exact⟨j+1,_,_,by omega,by go_num,UN.out,V1.out,L3⟩
     case measure=>simp[intOf];omega
  ·obtain rfl:j=N:=by omega
   clear FO;go_wp2_with fail
   go_loopw [10] (λi wr=>∃ (p:Nat) (v2:Value) (V2:Nat->Value),p<=n/\i=.int .i64 p/\Below w.heap.size w wr/\Two wr w.heap.size v1 v2/\Hid (iE wr (w.heap.size+1) 22 3 v1 j V (λq=>aD (toS ns vs q))) /\
     Hid (iE wr (w.heap.size+1) 132 4 v2 p V2 (λq=>ay (wK ns vs q) j j))/\Hid (∀ i,i<p->∃ b,V2 i=.slice (some ⟨b,0,none⟩) j j)) (λi _=>n - (intOf i).toNat)
   case atStart=>exact⟨0,_,λ_=>.bool false,aA8 _,rfl,hb,q1,HL,hid (xz _ _ _ _ _ _),hid (λi h=>by omega)⟩
   case round=>
    obtain⟨p,v2,V2,hp,rfl,hbp,q2,z8,oo,vY⟩:=hrel;rename World=>W3;have hM3:=q2.lt;have ER:=hbp.size;have k03:=(hbp.cell (p:=⟨F,0,none⟩) hF).trans k0;by_cases arX:p<n
    ·have BN:=hid q2;clear q2;go_wp2_with (at_make;go_must (refine aBA _ rfl (.tmp 62) (.tmp 62) 132 rfl (w.heap.size+1) 4 i2 (.bool false) 1 Tryz.underlying132 zA aea ad8 .i64 .i64 j j j rfl rfl rfl rfl ?m2 ?m3 hM3 ?_))
     case m2=>rw[ad6];omega
     case m3=>unfold maxLen;omega
     intro w1 aF aZ;have eo:(madeCells #[Value.bool false] j).toList=List.replicate j (.bool false):=aBq _ _;rw[eo,<-dh (wK ns vs p)]at aF;have aM:Below W3.heap.size W3 w1:=(aAW _ _).grown aZ (aAU _) (λk h=>by cases h);have OS:=hid aF;have aK:=hid aM;clear aF aZ eo aM;go_wp2_with fail
     go_loopw [12] (λi wq=>∃ q:Nat,q<=j/\i=.int .i64 q/\Hid (wq.ownsRow (w.heap.size+1) 4 1 (.slice (some ⟨W3.heap.size,0,none⟩) j j) j (ay (wK ns vs p) j q))/\Below W3.heap.size W3 wq) (λi _=>j - (intOf i).toNat)
     case atStart=>exact⟨0,aA8 _,rfl,OS,aK.out⟩
     case round=>
      obtain⟨q,hq,rfl,HO,dm⟩:=hrel;have ib:Below w.heap.size w wr:=hbp.trans (dm.mono ER);by_cases zx:q<j
      ·have own:=HO.out;have f0:=own.frozenAt q;have f1:(wr.cell? ⟨W3.heap.size,q,none⟩).isSome=true:=by
        rw[own.cellAt q (by omega)];simp[ay,zx]
       obtain⟨qv,f2⟩:=aBD.1 f1;have hO:=own.stored q (.bool (wK ns vs p q));rw[fB]at hO;have jy:=hid hO.1;have aW:=hid (dm.setCell (p:=⟨W3.heap.size,q,none⟩) (aAU _) (.bool (wK ns vs p q)));obtain⟨gs,e,nV,cq⟩:=SC.out q zx;subst e;have cq':=(ib.cell (p:=⟨gs,q,none⟩) nV).trans cq;have C:=KE.out wr q p ib zx arX;have HKP:Hid (wK ns vs p q=ic (aA ns p) p (bD vs q)):=hid rfl;clear hO f1 own HO ib;generalize ic (aA ns p) p (bD vs q)=kv at *;go_wp2_with fail;refine C.mono ?_;rintro e w4 ⟨rfl,rfl⟩;clear C;go_wp2_with fail;go_roundw
       case rel=>
        have o:=jy.out;have g:=aW.out;rw[HKP.out]at o g;exact⟨q+1,by omega,by go_num,hid o,g⟩
       case measure=>simp[intOf];omega
      ·obtain rfl:q=j:=by omega
       have own:=HO.out;have L1:=z8.out.keeps dm;have L2:=oo.out.keeps dm;have t1:=BN.out.below dm hM3;have k1:=t1.c1;have BB:=hid ib;have Ec:=hid own;have as0:=hid L1;have asZ:=hid L2;have T1:=hid t1;have l2:=L2.out;have arz:=ib.size;have ax1:=dm.size;clear own HO L1 L2 t1 dm z8 oo BN ib OS aK;go_wp2_with (at_builtin;go_must (refine aBw _ rfl (.tmp 84) (.tmp 86) 77 rfl (w.heap.size+1) 132 i3 (.slice none 0 0) 1 24 Tryz.underlying77 hi3 ad9 ad7 ad5 rfl (by decide) _ _ _ rfl (l2.alloc _) ⟨wr.heap.size,0,none⟩ 1 1 [.slice (some ⟨W3.heap.size,0,none⟩) q q] rfl rfl ?d1 ?d2 (by decide) ?d3 ?d4 ?d5 _ rfl ?_))
       case d1=>intro z u hz;rw[xI,aBo,aBQ];simpa using hz
       case d2=>intro u hu;simp at hu;subst hu;rfl
       case d3=>unfold maxLen;omega
       case d4=>omega
       case d5=>simp;omega
       intro g2 kE w2 hown hgrow hat gu;have bR:Below (w.heap.size+1) wr w2:=((aAW _ _).alloc (by omega) _).grown hgrow (by simp;omega) (λk h=>(l2.lt k h).1);have jW:(ay (wK ns vs p) q q).length=q:=by simp[ay]
       have A2:=asZ.out.keeps ((aAW _ _).alloc (aAU _) (.cells #[.slice (some ⟨W3.heap.size,0,none⟩) q q] 132));have L3:=oI A2 (by show World.ownsRow _ _ _ _ _ (ay (wK ns vs p) q q).length _;rw[jW];exact Ec.out.alloc _) (by decide) hgrow hown;have L4:=(as0.out.keeps ((aAW _ _).alloc (aAU _) (.cells #[.slice (some ⟨W3.heap.size,0,none⟩) q q] 132))).grown A2.out hgrow (by decide) (by decide);have s1:=T1.out.below bR (by omega);have L5:=hid (L3.set (k:=w.heap.size) (by omega) 1 (.slice (some ⟨g2,0,none⟩) (p+1) kE));have L6:=hid (L4.set (k:=w.heap.size) (by omega) 1 (.slice (some ⟨g2,0,none⟩) (p+1) kE));have V1:=hid (s1.set1 (.slice (some ⟨g2,0,none⟩) (p+1) kE));have e0:=s1.c1;have e1:=s1.f1;have UN:=hid ((BB.out.trans (bR.mono (by omega))).setCell (p:=⟨w.heap.size,1,none⟩) (aAU _) (.slice (some ⟨g2,0,none⟩) (p+1) kE));clear hown hgrow hat L3 L4 A2 s1 bR l2 k1 jW;go_wp2_with fail;go_roundw
       case rel=>
        refine⟨p+1,_,_,by omega,by go_num,UN.out,V1.out,L6,L5,hid (λi hi=>?_)⟩;by_cases e:i=p
        ·subst e;exact⟨W3.heap.size,by simp⟩
        ·simp only[aBT e];exact vY.out i (by omega)
       case measure=>simp[intOf];omega
    ·obtain rfl:p=n:=by omega
     have NM:Hid (pq W3 w.heap.size j (toS ns vs) p (wK ns vs)):=hid ⟨hM3,⟨v1,q2.c0,LY z8.out⟩,⟨v2,q2.c1,(ahG oo.out vY.out).brc⟩⟩;clear q2;go_wp2_with fail;go_ret;exact⟨rfl,NM.out,hbp⟩
structure xu (w:World) (R F gp cap:Nat) (ns:List Nd) (bs vs:List Nat):Prop where
 lt:R<w.heap.size
 fr:FR w F gp cap ns bs
 c0:w.cell? ⟨R,0,none⟩=some (.pointer (some ⟨F,0,none⟩))
 c1:∃ v,w.cell? ⟨R,1,none⟩=some v/\PQ w v vs.length ns.length (bD vs)
 c2:∃ v,w.cell? ⟨R,2,none⟩=some v/\K8 w v vs.length (toS ns vs)
theorem xu.below{w w':World}{R F gp cap:Nat}{ns:List Nd}{bs vs:List Nat}(h:xu w R F gp cap ns bs vs)(hb:Below w.heap.size w w'):xu w' R F gp cap ns bs vs:=by
 obtain⟨v1,a1,b1⟩:=h.c1;obtain⟨v2,a2,b2⟩:=h.c2;exact⟨aBi h.lt hb.size,h.fr.below hb,(hb.cell (p:=⟨R,0,none⟩) h.lt).trans h.c0,⟨v1,(hb.cell (p:=⟨R,1,none⟩) h.lt).trans a1,b1.below hb⟩,⟨v2,(hb.cell (p:=⟨R,2,none⟩) h.lt).trans a2,b2.below hb⟩⟩
theorem Em(R F gp cap:Nat)(ns:List Nd)(bs vs:List Nat)(hd:Bool)(w:World)(h:xu w R F gp cap ns bs vs)(hg:Good ns)(hM:vs.length<=256) :
  Calls Tryz.prog 76 #[.pointer (some ⟨R,0,none⟩),.bool hd] w λe w'=>∃ g,e=.returned (.slice (some ⟨g,0,none⟩) vs.length vs.length)/\Rb w' g vs.length (λi=>bD vs i (ns.length - 1)==hd)/\w.heap.size<=g/\Below w.heap.size w w'/\w'.ownsRow w.heap.size 4 1 (.slice (some ⟨g,0,none⟩) vs.length vs.length) vs.length (ay (λi=>bD vs i (ns.length - 1)==hd) vs.length vs.length):=by
 obtain⟨v1,a1,ao,az,rfl,hsc,hrow⟩:=h.c1;have hR:=h.lt;have r0:=h.c0;have f0:=h.fr.c0;have hF:=h.fr.Rl;have hfc:=h.fr.hcap;have dw:=hg.le;have hpos:=hg.pos;obtain⟨i0,hi,aR,aP,aN⟩:=info_parts Tryz.eD;have Gs:=hid hrow;clear hrow h hg;generalize ns.length=n at *;obtain⟨n1,rfl⟩:∃ n1,n=n1+1:=⟨n - 1,by omega⟩;rw[show n1+1 - 1=n1 by omega];have wr1:IntKind.i64.wrap (((n1+1:Nat):Int) - 1)=(n1:Int):=by rw[IntKind.wrap_i64];omega
 generalize vs.length=M at *;go_enter Tryz.func76,Tryz.ntmps76;go_wp2_with (at_make;go_must (refine aBA _ rfl (.tmp 11) (.tmp 11) 132 rfl w.heap.size 4 i0 (.bool false) 1 Tryz.underlying132 hi aR aP .i64 .i64 M M M rfl rfl rfl rfl ?m2 ?m3 (aAU _) ?_))
 case m2=>rw[aN];omega
 case m3=>unfold maxLen;omega
 intro w1 aF aZ;have eo:(madeCells #[Value.bool false] M).toList=List.replicate M (.bool false):=aBq _ _;rw[eo,<-dh (λi=>bD vs i n1==hd)]at aF;have aM:Below w.heap.size w w1:=(aAW _ _).grown aZ (aAU _) (λk h=>by cases h);have OS:=hid aF;have aK:=hid aM;clear aF aZ eo aM;go_wp2_with fail
 go_loopw [6] (λi wq=>∃ k:Nat,k<=M/\i=.int .i64 k/\Hid (wq.ownsRow w.heap.size 4 1 (.slice (some ⟨w.heap.size,0,none⟩) M M) M (ay (λi=>bD vs i n1==hd) M k))/\Below w.heap.size w wq) (λi _=>M - (intOf i).toNat)
 case atStart=>exact⟨0,aA8 _,rfl,OS,aK.out⟩
 case round=>
  obtain⟨k,hk,rfl,HO,dm⟩:=hrel;have a1':=(dm.cell (p:=⟨R,1,none⟩) hR).trans a1;by_cases hlk:k<M
  ·obtain⟨gs,e,nV,zt⟩:=Gs.out (by omega);subst e;obtain⟨b,cb,sD⟩:=zt k hlk;have Tx:=(dm.cell (p:=⟨gs,k,none⟩) nV).trans cb;have Nr:=(dm.cell (p:=⟨R,0,none⟩) hR).trans r0;have Wy:=(dm.cell (p:=⟨F,0,none⟩) hF).trans f0;have dV:=sD.lt;have cx:=(dm.cell (p:=⟨b,n1,none⟩) dV).trans (sD.cell n1 (by omega));have own:=HO.out;have q0:=own.frozenAt k;have q1:(wr.cell? ⟨w.heap.size,k,none⟩).isSome=true:=by
    rw[own.cellAt k (by omega)];simp[ay,hlk]
   obtain⟨qv,q2⟩:=aBD.1 q1;have hO:=own.stored k (.bool (bD vs k n1==hd));rw[fB (λi=>bD vs i n1==hd)]at hO;have jy:=hid hO.1;have aW:=hid (dm.setCell (p:=⟨w.heap.size,k,none⟩) (aAU _) (.bool (bD vs k n1==hd)));clear hO q1 own HO zt cb sD;generalize bD vs k n1=mv at *;have KS:∀ (x o:Nat) {v:Value},x<w.heap.size->wr.cell? ⟨x,o,none⟩=some v->(wr.setCell ⟨w.heap.size,k,none⟩ (.bool (mv==hd))).drew.cell? ⟨x,o,none⟩=some v:=λx o v hx hv=>by
    show (wr.setCell ⟨w.heap.size,k,none⟩ (.bool (mv==hd))).cell? ⟨x,o,none⟩=some v;rw[aA0 _ _ _ _ (λe=>by have:=congrArg Addr.block e;simp at this;omega)];exact hv
   have z1:(0:Int)<=(k:Int):=Int.natCast_nonneg _;have z2:(k:Int)<(M:Int):=by omega
   have z3:(0:Int)<=(n1:Int):=Int.natCast_nonneg _;have z4:(n1:Int)<((n1+1:Nat):Int):=by omega
   have wr2:IntKind.i64.wrap (n1:Int)=(n1:Int):=by rw[IntKind.wrap_i64];omega
   have wr3:IntKind.i64.wrap ((n1:Int)+1 - 1)=(n1:Int):=by rw[IntKind.wrap_i64];omega
   have z5:(n1:Int)<(n1:Int)+1:=by omega
   go_wp2_with fail
   go_region_held3 (λw'=>w'.cell? ⟨R,1,none⟩=some (.slice (some ⟨gs,0,none⟩) M az)/\w'.cell? ⟨gs,k,none⟩=some (.slice (some ⟨b,0,none⟩) (n1+1) (n1+1))/\w'.cell? ⟨R,0,none⟩=some (.pointer (some ⟨F,0,none⟩))/\w'.cell? ⟨F,0,none⟩=some (.slice (some ⟨gp,0,none⟩) (n1+1) cap)/\w'.cell? ⟨b,n1,none⟩=some (.bool mv))
    (first
     | go_keep
     | exact⟨KS _ _ hR a1',KS _ _ nV Tx,KS _ _ hR Nr,KS _ _ hF Wy,KS _ _ dV cx⟩)
    (fail)
   go_wp2_with fail;go_roundw
   case rel=>exact⟨k+1,by omega,by go_num,hid (ae jy.out (aBd (aAW _ _) 1)),aBd aW.out 1⟩
   case measure=>simp[intOf];omega
  ·obtain rfl:k=M:=by omega
   have RB:Hid (Rb wr w.heap.size k (λi=>bD vs i n1==hd)):=hid ⟨(HO.out.lt _ rfl).2,λi hi=>by rw[HO.out.cellAt i (by omega)];exact jM _ _ _ hi⟩;go_wp2_with fail;go_ret;exact⟨w.heap.size,rfl,RB.out,aAU _,dm,HO.out⟩
theorem Za(R F gp cap:Nat)(ns:List Nd)(bs vs:List Nat)(hd:Bool)(w:World)(h:xu w R F gp cap ns bs vs)(hg:Good ns)(hM:vs.length<=256) :
  Calls Tryz.prog 76 #[.pointer (some ⟨R,0,none⟩),.bool hd] w λe w'=>∃ g,e=.returned (.slice (some ⟨g,0,none⟩) vs.length vs.length)/\Rb w' g vs.length (λi=>bD vs i (ns.length - 1)==hd)/\w.heap.size<=g/\Below w.heap.size w w':=
 (Em R F gp cap ns bs vs hd w h hg hM).mono λe w' ⟨g,h1,h2,h3,h4,_⟩=>⟨g,h1,h2,h3,h4⟩
section
variable (ns:List Nd) (vs:List Nat) (f:Nat->Bool) (a:Nat)
def iK(i j:Nat):Bool:=(List.range i).any λq=>f q&&jL ns (bD vs q) a&&decide (j∈toS ns vs q)
def Ai(i k j:Nat):Bool:=iK ns vs f a i j||decide (j∈(toS ns vs i).take k)
theorem ahZ{i:Nat}(h:(f i&&jL ns (bD vs i) a)=false)(j:Nat):iK ns vs f a (i+1) j=iK ns vs f a i j:=by
 simp[iK,aBL,List.any_append,h]
theorem Z4(i j:Nat):Ai ns vs f a i 0 j=iK ns vs f a i j:=by simp[Ai]
theorem Z5{i k:Nat}(hk:k<(toS ns vs i).length):upd (Ai ns vs f a i k) (df (toS ns vs i) k) true=Ai ns vs f a i (k+1):=by
 funext j;have e:(toS ns vs i).take (k+1)=(toS ns vs i).take k++[df (toS ns vs i) k]:=by
  rw[List.take_succ_eq_append_getElem hk];simp[df,List.getD,aAV hk]
 unfold upd Ai;rw[e];by_cases ej:j=df (toS ns vs i) k
 ·rw[aBU ej];simp[ej]
 ·rw[aBT ej];simp[ej]
theorem adH{i:Nat}(h:(f i&&jL ns (bD vs i) a)=true)(j:Nat):Ai ns vs f a i (toS ns vs i).length j=iK ns vs f a (i+1) j:=by
 unfold Ai iK;rw[List.take_length,aBL,List.any_append];simp[h]
end
theorem Qz{ns:List Nd}{vs:List Nat}{i b:Nat}(h:b∈toS ns vs i):b<vs.length:=by
 unfold toS qX at h;rw[List.mem_filter,aBI]at h;exact h.1
theorem Gz(ns:List Nd)(vs:List Nat)(i:Nat):(toS ns vs i).length<=vs.length:=LQ ns vs i vs.length
theorem Z0(R F gp cap gl a:Nat)(ns:List Nd)(bs vs:List Nat)(f:Nat->Bool)(w:World)(h:xu w R F gp cap ns bs vs)(hg:Good ns)(hM:vs.length<=256)(ha:a<8)(hf:Rb w gl vs.length f) :
  Calls Tryz.prog 78 #[.pointer (some ⟨R,0,none⟩),.slice (some ⟨gl,0,none⟩) vs.length vs.length,.int .i64 a] w λe w'=>∃ g,e=.returned (.slice (some ⟨g,0,none⟩) vs.length vs.length)/\Rb w' g vs.length (iK ns vs f a vs.length)/\w.heap.size<=g/\Below w.heap.size w w'/\w'.ownsRow w.heap.size 4 1 (.slice (some ⟨g,0,none⟩) vs.length vs.length) vs.length (ay (iK ns vs f a vs.length) vs.length vs.length):=by
 obtain⟨v1,a1,ao,az,rfl,hsc,hrow⟩:=h.c1;obtain⟨v2,a2,mH,bK,rfl,htc,Rx⟩:=h.c2;have hR:=h.lt;have r0:=h.c0;have dw:=hg.le;have Gr:=hid (λi=>Gz ns vs i);have kS:=hid (λi b=>Qz (ns:=ns) (vs:=vs) (i:=i) (b:=b));obtain⟨i0,hi,aR,aP,aN⟩:=info_parts Tryz.eD;have Gs:=hid hrow;have asE:=hid Rx;have RD:=hid (λ(W:World) (b:Nat) S (h1:Below w.heap.size w W) (h2:Rb W b ns.length S)=>IV F gp cap b ns.length ns bs S W a ha (h.fr.below h1) h2 hg (aAU _));have kz:=hf.lt;have UA:=hid hf.cell;clear hrow Rx h hg hf;generalize ns.length=n at *;generalize vs.length=M at *;go_enter Tryz.func78,Tryz.ntmps78;go_wp2_with (at_make;go_must (refine aBA _ rfl (.tmp 12) (.tmp 12) 132 rfl w.heap.size 4 i0 (.bool false) 1 Tryz.underlying132 hi aR aP .i64 .i64 M M M rfl rfl rfl rfl ?m2 ?m3 (aAU _) ?_))
 case m2=>rw[aN];omega
 case m3=>unfold maxLen;omega
 intro w1 aF aZ;have eo:(madeCells #[Value.bool false] M).toList=List.replicate M (.bool false):=aBq _ _;rw[eo,<-dh (λ_=>false),show ay (λ_=>false) M 0=ay (iK ns vs f a 0) M M by simp[ay,iK]]at aF;have aM:Below w.heap.size w w1:=(aAW _ _).grown aZ (aAU _) (λk h=>by cases h);have OS:=hid aF;have aK:=hid aM;clear aF aZ eo aM;go_wp2_with fail
 go_loopw [8] (λi wq=>∃ q:Nat,q<=M/\i=.int .i64 q/\Hid (wq.ownsRow w.heap.size 4 1 (.slice (some ⟨w.heap.size,0,none⟩) M M) M (ay (iK ns vs f a q) M M))/\Below w.heap.size w wq) (λi _=>M - (intOf i).toNat)
 case atStart=>exact⟨0,aA8 _,rfl,OS,aK.out⟩
 case round=>
  obtain⟨q,hq,rfl,HO,hb⟩:=hrel;rename World=>W0;by_cases zx:q<M
  ·obtain⟨gs,e,nV,zt⟩:=Gs.out (by omega);subst e;obtain⟨b,cb,sD⟩:=zt q zx;have Tx:=(hb.cell (p:=⟨gs,q,none⟩) nV).trans cb;have Nr:=(hb.cell (p:=⟨R,0,none⟩) hR).trans r0;have a1':=(hb.cell (p:=⟨R,1,none⟩) hR).trans a1;have cl:=(hb.cell (p:=⟨gl,q,none⟩) kz).trans (UA.out q zx);have arP:=sD.below hb;have C:=λm=>RD.out (W0.drewN m) b (bD vs q) (aBd hb m) ((sD.below hb).drewN m);have nI:=hid (ahZ ns vs f a (i:=q));have Ei:=hid (adH ns vs f a (i:=q));clear zt cb sD arP;generalize jL ns (bD vs q) a=rv at *;generalize f q=fv at *;go_wp2_with fail
   go_quiet ((go_at_call 81;exact Calls.quiet_of_same (C _)))
   have aW:=hid (aBd hb nq);have jy:=hid (ae HO.out (aBd (aAW W0.heap.size W0) nq));have cl2:(W0.drewN nq).cell? ⟨gl,q,none⟩=some (.bool fv):=cl;clear C HO cl;by_cases hgo:(fv&&rv)=true
   ·obtain⟨rfl,rfl⟩:fv=true/\rv=true:=by cases fv <;> cases rv <;> simp_all
    obtain⟨g2,e,oV,Ry⟩:=asE.out (by omega);subst e;obtain⟨r,cr,aor,qF,rfl,hrc,rz⟩:=Ry q zx;have oh:=hid rz;have Eh:=hid cr;have jW:=Gr.out q;have tu:=hid a2;have HZ:Hid (ay (iK ns vs f a q) M M=ay (Ai ns vs f a q 0) M M):=hid (qh (λi _=>(Z4 ns vs f a q i).symm));have mI:=hid (λk=>Z5 ns vs f a (i:=q) (k:=k));have HFN:Hid (ay (Ai ns vs f a q (toS ns vs q).length) M M=ay (iK ns vs f a (q+1)) M M):=hid (qh (λi _=>Ei.out rfl i));have PN:=hid (λb=>kS.out q b);clear hgo Ry rz cr nI Ei;generalize oU:(toS ns vs q).length=ln at *;have bZ:=hid oU;clear oU Tx Nr a1';have a22:=(aW.out.cell (p:=⟨R,2,none⟩) hR).trans a2;have cr2:=(aW.out.cell (p:=⟨g2,q,none⟩) oV).trans Eh.out;generalize W0.drewN nq=W1 at *;go_wp2_with fail
    go_loopw [10] (λi wq=>∃ k:Nat,k<=ln/\i=.int .i64 k/\Hid (wq.ownsRow w.heap.size 4 1 (.slice (some ⟨w.heap.size,0,none⟩) M M) M (ay (Ai ns vs f a q k) M M))/\Below w.heap.size w wq) (λi _=>ln - (intOf i).toNat)
    case atStart=>exact⟨0,aA8 _,rfl,by rw[<-HZ.out];exact jy,aW.out⟩
    case round=>
     obtain⟨k,hk,rfl,yJ,aI⟩:=hrel;have a23:=(aI.cell (p:=⟨R,2,none⟩) hR).trans tu.out;have cr3:=(aI.cell (p:=⟨g2,q,none⟩) oV).trans Eh.out;by_cases hlk:k<ln
     ·obtain⟨gr,e,hgr,FW⟩:=oh.out (by omega);subst e;have cb3:=(aI.cell (p:=⟨gr,k,none⟩) hgr).trans (FW k hlk);have wL:=PN.out _ (mh (show k<(toS ns vs q).length by rw[bZ.out];exact hlk));have own:=yJ.out;have e2:=mI.out k hlk;have q0:=own.frozenAt (df (toS ns vs q) k);have q1:(wr.cell? ⟨w.heap.size,df (toS ns vs q) k,none⟩).isSome=true:=by
       rw[own.cellAt _ (by omega)];simp[ay,wL]
      obtain⟨qv,q2⟩:=aBD.1 q1;have hO:=own.stored (df (toS ns vs q) k) (.bool true);rw[zh,e2]at hO;have Iw:=hid hO.1;have iN:=hid (aI.setCell (p:=⟨w.heap.size,df (toS ns vs q) k,none⟩) (aAU _) (.bool true));clear hO q1 own yJ FW e2;generalize df (toS ns vs q) k=b2 at *;go_wp2_with fail;go_roundw
      case rel=>exact⟨k+1,by omega,by go_num,Iw,iN.out⟩
      case measure=>simp[intOf];omega
     ·obtain rfl:k=ln:=by omega
      go_wp2_with fail;go_roundw
      case rel=>exact⟨q+1,by omega,by go_num,by rw[<-HFN.out];exact yJ,aI⟩
      case measure=>simp[intOf];omega
   ·have akk:(fv&&rv)=false:=by simpa using hgo
    have HE:Hid (ay (iK ns vs f a (q+1)) M M=ay (iK ns vs f a q) M M):=hid (qh (λi _=>nI.out akk i));clear hgo;generalize W0.drewN nq=W1 at *;cases fv
    ·go_wp2_with fail;go_roundw
     case rel=>exact⟨q+1,by omega,by go_num,by rw[HE.out];exact jy,aW.out⟩
     case measure=>simp[intOf];omega
    ·cases rv
     ·go_wp2_with fail;go_roundw
      case rel=>exact⟨q+1,by omega,by go_num,by rw[HE.out];exact jy,aW.out⟩
      case measure=>simp[intOf];omega
     ·cases akk
  ·obtain rfl:q=M:=by omega
   have RB:Hid (Rb W0 w.heap.size q (iK ns vs f a q)):=hid ⟨(HO.out.lt _ rfl).2,λi hi=>by rw[HO.out.cellAt i (by omega)];exact jM _ _ _ hi⟩;go_wp2_with fail;go_ret;exact⟨w.heap.size,rfl,RB.out,aAU _,hb,HO.out⟩
