import Derived.Test.YtjagijohfkffiabGreatALLM23
set_option maxHeartbeats 16000000
set_option maxRecDepth 100000
set_option linter.unusedSimpArgs false
namespace Go.Proofs.YtjagijohfkffiabGreat
open Go.RowKit
set_option linter.unusedVariables false
def Lb(ns:List Nd)(vs:List Nat)(out:Nat->Nat)(nx:Nat->Nat->Nat)(vd k i a pr j:Nat):List Nat:=nW ns vs out nx vd k i a++((toS ns vs i).take j).map (λq=>pr+q)
def CJ(rv:Bool)(o vd j:Nat):Prop:=(rv=true/\o≠vd)\/j=0
def rz(w:World)(B:Nat)(v:Value)(L:List Nat):Prop:=w.ownsRow B 3 1 v L.length (aI L)
theorem aa6(R F gp cap P K:Nat)(ns:List Nd)(bs vs:List Nat)(out:Nat->Nat)(xs:List Nat)(hd:Bool)(vd:Nat)(w:World)(h:tJ w R F gp cap ns bs vs)(hf:BJ w P K out (mO xs))(hg:Good ns)(hM:vs.length<=256)(GV:0<vs.length)(uC:0<K)(hK:K<=796594185)(hc:∀ i a,i<K->a<8->aZ xs i a<K)
  (EN:∀ W P',pI W P' (K*vs.length) (rQ ns vs out (aZ xs) vd) ns.length (nz ns vs)->Calls Tryz.prog 75 #[.pointer (some ⟨P',0,none⟩)] W λe w'=>∃ g good,e=.returned (.slice (some ⟨g,0,none⟩) (K*vs.length) (K*vs.length))/\W.heap.size<=g/\BO w' W.heap.size g (K*vs.length) good/\(∀ i,good i=true↔∃ c,c<K*vs.length/\reach (Ed (K*vs.length) (rQ ns vs out (aZ xs) vd)) i c/\GN (K*vs.length) (rQ ns vs out (aZ xs) vd) ns.length (nz ns vs) c)/\Below W.heap.size W w') :
  Calls Tryz.prog 109 #[.pointer (some ⟨R,0,none⟩),.pointer (some ⟨P,0,none⟩),.bool hd,.int .i64 (vd:Nat)] w λe w'=>∃ b:Bool,∃ good:Nat->Bool,e=.returned (.bool b)/\(b=true↔∃ i,i<vs.length/\aX vs i (ns.length - 1)=hd/\good i=true)/\(∀ i,good i=true↔∃ c,c<K*vs.length/\reach (Ed (K*vs.length) (rQ ns vs out (aZ xs) vd)) i c/\GN (K*vs.length) (rQ ns vs out (aZ xs) vd) ns.length (nz ns vs) c)/\Below w.heap.size w w':=by
 obtain⟨v1,a1,uJ,Hy,rfl,hsc,hrow⟩:=h.c1;obtain⟨v2,a2,kZ,mQ,rfl,htc,Gp⟩:=h.c2;obtain⟨gs,rfl,nD,vo⟩:=hrow GV;obtain⟨gt,rfl,hgt,Gq⟩:=Gp GV;obtain⟨aoF,atS,f0⟩:=hf.c0;obtain⟨vO,f1,CX,xY,rfl,Ef,qw⟩:=hf.c1;obtain⟨vX,f2,aoX,agH,rfl,ahq,Ba⟩:=hf.c2;have hR:=h.lt;have hP:=hf.lt;have r0:=h.c0;have di:=hg.le;have JJ:=hid h;have HG:=hid hg;have Nb:=hid vo;have agT:=hid Gq;have RF:=hid qw;have apn:=hid Ba;have rY:=hid hc;have Nn:=hid EN;obtain⟨i0,hi,aT,aP,aO⟩:=info_parts Tryz.mE;obtain⟨i1,jU,gJ,gI,gG⟩:=info_parts Tryz.wP;obtain⟨i2b,vF,TV,TT,TR⟩:=info_parts Tryz.dY;obtain⟨i3,hi3,TU,TS,TQ⟩:=info_parts Tryz.AZ;have Ug:((List.range K).map out).length=K:=by simp
 rw[Ug]at f1 Ef RF;have aaz:Hid (∀ i,i<K->bZ ((List.range K).map out) i=out i):=hid (λi hi=>by simp[bZ,List.getD,hi]);have RD:=hid (λ(W:World) (b:Nat) (S:Nat->Bool) (a:Nat) (ha:a<8) (h1:Below w.heap.size w W) (h2:Rb W b ns.length S)=>DJ F gp cap b ns.length ns bs S W a ha (h.fr.below h1) h2 hg (aB2 _));have KD:=hid (λ(W:World) (b:Nat) (S:Nat->Bool) (p:Nat) (hp:p<ns.length) (h1:Below w.heap.size w W) (h2:Rb W b ns.length S)=>Ki F gp cap b ns.length ns bs S W p hp (h.fr.below h1) h2 hg (aB2 _));have WH:=hid (λ(W:World) (h1:Below w.heap.size w W)=>FH R F gp cap ns bs vs hd W (h.below h1) hg hM);clear h hf hg vo Gq hrow Gp qw Ba hc EN;go_enter Tryz.func109,Tryz.ntmps109;go_wp2_with fail;have ba:=hid ((aB4 w.heap.size w).alloc (aB2 _) (.cells #[.slice none 0 0,.slice none 0 0] 140));have T1:=hid (bY w (.slice none 0 0) (.slice none 0 0) 140)
 go_loopw [11] (λi o=>∃ (k:Nat) (J:Value) (V:Nat->Value),k<=K/\i=.int .i64 k/\Hid (Two o w.heap.size J (.slice none 0 0))/\Hid (fZ o (w.heap.size+1) 22 3 J (k*vs.length) V (λq=>aI (rQ ns vs out (aZ xs) vd q)))/\Hid (Below w.heap.size w o)/\w.heap.size+1<=o.heap.size) (λi _=>K - (intOf i).toNat)
 case atStart=>exact⟨0,_,λ_=>.slice none 0 0,aCg _,rfl,T1,by rw[Nat.zero_mul];exact hid (uk _ _ _ _ _ _),ba,by simp⟩
 case round=>
  obtain⟨k,J,V,hk,rfl,r,s,f,hsz⟩:=hrel;rename World=>W0;clear ba T1;have Ho:=(f.out.cell (p:=⟨P,0,none⟩) hP).trans f0;by_cases hlk:k<K
  ·obtain⟨gO,e,Bh,Fa⟩:=RF.out (by omega);subst e;obtain⟨gX,e,XY,PY⟩:=apn.out (by omega);subst e;obtain⟨rX,cX,aoR,Ch,e,apk,hxr⟩:=PY k hlk;subst e;rw[zg]at cX apk hxr;obtain⟨gR,e,P8,LQ⟩:=hxr (by omega);subst e;have BD:=hid (by have h9:=Fa k hlk;rwa [aaz.out k hlk]at h9:w.cell? ⟨gO,k,none⟩=some (.int .i64 (out k:Nat)));have uN:=hid (λx (hx:x<K)=>(by have h9:=Fa x hx;rwa [aaz.out x hx]at h9:w.cell? ⟨gO,x,none⟩=some (.int .i64 (out x:Nat))));have HXV:=hid (λa (ha:a<8)=>(by have h9:=LQ a ha;rwa [Tf xs ha]at h9:w.cell? ⟨gR,a,none⟩=some (.int .i64 (aZ xs k a:Nat))));have HCX:=hid cX;clear Fa PY hxr LQ cX;go_wp2_with fail
   go_loopw [12] (λi o=>∃ (l:Nat) (J:Value) (V:Nat->Value),l<=vs.length/\i=.int .i64 l/\Hid (Two o w.heap.size J (.slice none 0 0))/\Hid (fZ o (w.heap.size+1) 22 3 J (k*vs.length+l) V (λq=>aI (rQ ns vs out (aZ xs) vd q)))/\Hid (Below w.heap.size w o)/\w.heap.size+1<=o.heap.size) (λi _=>vs.length - (intOf i).toNat)
   case atStart=>exact⟨0,_,V,aCg _,rfl,r,s,f,hsz⟩
   case round=>
    obtain⟨l,J,V,zW,rfl,r,s,f,hsz⟩:=hrel;rename World=>W1;clear Ho;by_cases qU:l<vs.length
    ·have Dc:=hid (λq (hq:q<k*vs.length+l) z (h:(V q).ownBlock=some z)=>((s.out.row q hq).lt z h).2);go_wp2_with fail
     go_loopw [13,14] (λto i o=>∃ a:Nat,a<=8/\i=.int .i64 a/\Hid (o.ownsRow W1.heap.size 3 1 to (nW ns vs out (aZ xs) vd k l a).length (aI (nW ns vs out (aZ xs) vd k l a)))/\Hid (Two o w.heap.size J (.slice none 0 0))/\Hid (fZ o (w.heap.size+1) 22 3 J (k*vs.length+l) V (λq=>aI (rQ ns vs out (aZ xs) vd q)))/\Hid (Below w.heap.size w o)/\W1.heap.size<=o.heap.size) (λ_ i _=>8 - (intOf i).toNat)
     case atStart=>exact⟨0,by omega,rfl,hid (aCp _ _ _ _),r,s,f,aB2 _⟩
     case round=>
      obtain⟨a,ha,rfl,v,r,s,f,jT⟩:=hrel;rename World=>W2;have p1:=(f.out.cell (p:=⟨P,1,none⟩) hP).trans f1;have ok:=(f.out.cell (p:=⟨gO,k,none⟩) Bh).trans BD.out;by_cases vE:a<8
      ·by_cases Uf:out k=vd
       ·have oI:=hid (Pn ns vs out (aZ xs) vd (i:=l) Uf);have ok2:=ok;rw[Uf]at ok2;have hsl:nW ns vs out (aZ xs) vd k l a=rQ ns vs out (aZ xs) vd (k*vs.length+l):=by rw[FP ns vs out (aZ xs) vd qU,oI.out,oI.out]
        rw[hsl]at v;clear ok Uf hsl;have Ud:(rQ ns vs out (aZ xs) vd (k*vs.length+l)).length<=2048:=by
         rw[FP ns vs out (aZ xs) vd qU];exact aCW (zC ns vs out (aZ xs) vd k l 8) (aCW (Nat.mul_le_mul_left 8 hM) (by omega))
        have P6:k*vs.length+l<796594185*256:=aCq (xh (show k<796594185 by omega) qU) (Nat.mul_le_mul_left _ hM);have Iy:Hid (k*vs.length+(l+1)=(k*vs.length+l)+1):=hid rfl;have agS:=Dc;generalize hqE:k*vs.length+l=qq at *;generalize GY:rQ ns vs out (aZ xs) vd qq=L at *;obtain⟨E,G,rfl⟩:=ak v.out;obtain⟨sQ,sN,rfl⟩:=ak s.out.out;have k0:=r.out.c0;have H:=(aB4 W2.heap.size W2).alloc (aB2 _) (.cells #[.slice E L.length G] 22);go_wp2_with (at_builtin;go_must (refine aCE _ rfl (.tmp 132) (.tmp 134) 23 rfl (w.heap.size+1) 22 i1 (.slice none 0 0) 1 24 Tryz.underlying23 jU gJ gI gG rfl (by decide) _ qq ((List.range qq).map V) rfl (s.out.out.alloc _) ⟨W2.heap.size,0,none⟩ 1 1 [.slice E L.length G] rfl rfl (dH W2 [.slice E L.length G] _) (by intro y Y;simp at Y;rcases Y with rfl;rfl) (by decide) (by unfold maxLen;omega) (by omega) (by simp;omega) (W2.heap.size+1) (by simp) ?_));intro Q T X n d I qj;have uz:W2.heap.size<=X.heap.size:=by
         have:=d.size;simp at this;omega
        have rV:=r.out.lt;have qx:(Value.slice sQ qq sN).ownBlock≠some w.heap.size:=λe=>by have:=(s.out.out.lt _ e).1;omega
        have A:=d.block w.heap.size (by rw[aB7];omega) (λe=>qx e.symm);have B:=r.out.below H rV;have M:Two X w.heap.size (.slice sQ qq sN) (.slice none 0 0):=⟨(aCn (a:=⟨w.heap.size,0,none⟩) A).trans B.c0,(aCn (a:=⟨w.heap.size,1,none⟩) A).trans B.c1,(aCo (a:=⟨w.heap.size,0,none⟩) A).trans B.f0,(aCo (a:=⟨w.heap.size,1,none⟩) A).trans B.f1⟩;have p8:=(bQ v.out (show w.heap.size+1<=W1.heap.size by omega)).alloc (.cells #[.slice E L.length G] 22);have Z:=nL (s.out.keeps H) (x:=.slice E L.length G) (by rw[GY,ny];exact p8) (by decide) d n;have q0:=M.c0;have q1:=M.f0;have D1:=hid (M.set0 (.slice (some ⟨Q,0,none⟩) (qq+1) T));have D2:=hid (Z.set (show w.heap.size<w.heap.size+1 by omega) 0 (.slice (some ⟨Q,0,none⟩) (qq+1) T));have D4:=hid (((f.out.alloc f.out.size (.cells #[.slice E L.length G] 22)).grown d (by simp;omega) (λq h=>by have:=(s.out.out.lt q h).1;omega)).setCell (p:=⟨w.heap.size,0,none⟩) (aB2 _) (.slice (some ⟨Q,0,none⟩) (qq+1) T));clear n d I H v r s f p8 M Z qx A B;go_wp2_with fail;go_roundw
        case rel=>exact⟨l+1,_,_,by omega,by go_num,D1,by rw[Iy.out];exact D2,D4,by simp;omega⟩
        case measure=>simp[intOf];omega
       ·have alN:¬ ((out k:Int)=(vd:Int)):=by omega
        have atc:((out k:Int) !=(vd:Int))=true:=by simpa using alN
        have HOV:=hid Uf;obtain⟨b,cb,nM⟩:=Nb.out l qU;have zJ:=(f.out.cell (p:=⟨R,0,none⟩) hR).trans r0;have MO:=(f.out.cell (p:=⟨R,1,none⟩) hR).trans a1;have Hw:=(f.out.cell (p:=⟨gs,l,none⟩) nD).trans cb;have C:=λm=>RD.out (W2.drewN m) b (aX vs l) a vE (aCl f.out m) ((nM.below f.out).drewN m);have x2:=(f.out.cell (p:=⟨P,2,none⟩) hP).trans f2;have x3:=(f.out.cell (p:=⟨gX,k,none⟩) XY).trans HCX.out;have x4:=(f.out.cell (p:=⟨gR,a,none⟩) P8).trans (HXV.out a vE);have KR:∀ m,(W2.drewN m).cell? ⟨P,2,none⟩=some (.slice (some ⟨gX,0,none⟩) K agH):=λm=>x2;have x3':∀ m,(W2.drewN m).cell? ⟨gX,k,none⟩=some (.slice (some ⟨gR,0,none⟩) 8 Ch):=λm=>x3;have x4':∀ m,(W2.drewN m).cell? ⟨gR,a,none⟩=some (.int .i64 (aZ xs k a:Nat)):=λm=>x4;clear cb nM;have hxK:=rY.out k a hlk vE;have HSY:=hid (Nz ns vs out (aZ xs) vd (k:=k) (i:=l) (a:=a));have QR:=hid (Sj ns vs out (aZ xs) vd (k:=k) (i:=l) (a:=a));have iZ:=hid (Au ns vs out (aZ xs) vd k l a);have nJ:=hid (λq h=>(v.out.lt q h).1);have hlen:=zC ns vs out (aZ xs) vd k l a;have aph:(nW ns vs out (aZ xs) vd k l a).length<=2048:=aCW hlen (aCW (Nat.mul_le_mul ha hM) (by omega));clear hlen;generalize iR ns (aX vs l) a=rv at *;generalize aZ xs k a=x at *;go_wp2_with fail
        go_quiet ((go_at_call 81;exact Calls.quiet_of_same (C _)))
        have z2:=KR nq;have z3:=x3' nq;have z4:=x4' nq;have bF:=hid (aCl f.out nq);have bq:=aCl (aB4 W2.heap.size W2) nq;have nK:=hid (ai v.out bq);have p9:=hid (r.out.below bq r.out.lt);have sV:=hid (s.out.keeps bq);have Kk:W1.heap.size<=(W2.drewN nq).heap.size:=jT;clear C KR x3' x4' x2 x3 x4 zJ MO Hw p1 ok bq v r s f;generalize W2.drewN nq=W3 at *;clear Uf alN atc;obtain⟨rT,cT,Yv,atQ,e,apj,jK⟩:=agT.out l qU;subst e;have We:=hid cT;have De:=hid jK;have rV:=zf ns vs l;have lq:=hid (λb=>KU (ns:=ns) (vs:=vs) (i:=l) (b:=b));clear cT jK;have HOX:=hid (uN.out x hxK);have jd:x*vs.length<=796594185*256:=Nat.mul_le_mul (by omega) hM;have wm:IntKind.i64.wrap ((x:Int)*(vs.length:Int))=((x*vs.length:Nat):Int):=by
         rw[IntKind.wrap_i64,<-Int.natCast_mul];omega
        generalize Ue:x*vs.length=pr at *;have HPR:=hid Ue;clear Ue;generalize nY:(toS ns vs l).length=ln at *;have bW:=hid nY;clear nY;go_wp2_with fail;clear z2 z3 z4
        go_loopw [13,17] (λto i o=>∃ j:Nat,j<=ln/\i=.int .i64 j/\Hid (CJ rv (out x) vd j)/\Hid (rz o W1.heap.size to (Lb ns vs out (aZ xs) vd k l a pr j))/\Hid (Two o w.heap.size J (.slice none 0 0))/\Hid (fZ o (w.heap.size+1) 22 3 J (k*vs.length+l) V (λq=>aI (rQ ns vs out (aZ xs) vd q)))/\Hid (Below w.heap.size w o)/\W1.heap.size<=o.heap.size) (λ_ i _=>ln - (intOf i).toNat)
        case atStart=>exact⟨0,aCg _,rfl,hid (aCb rfl),hid (by unfold rz Lb;simpa using nK.out),p9,sV,bF,Kk⟩
        case round=>
         obtain⟨j,hj,rfl,Bi,v,r,s,f,jT⟩:=hrel;rename World=>W4;clear nK p9 sV bF Kk;have t2:=(f.out.cell (p:=⟨R,2,none⟩) hR).trans a2;have t3:=(f.out.cell (p:=⟨gt,l,none⟩) hgt).trans We.out;have p1:=(f.out.cell (p:=⟨P,1,none⟩) hP).trans f1;have ox:=(f.out.cell (p:=⟨gO,x,none⟩) Bh).trans HOX.out;have fin:¬ (j<ln/\rv=true/\out x≠vd)->Hid (nW ns vs out (aZ xs) vd k l (a+1)=Lb ns vs out (aZ xs) vd k l a pr j):=λhno=>hid (by
          rw[iZ.out];unfold Lb;congr 1;by_cases c:rv=true/\out x≠vd
          ·rw[HSY.out ⟨HOV.out,c.1,c.2⟩,List.take_of_length_le (by rw[bW.out];exact Nat.le_of_not_lt λh=>hno ⟨h,c⟩)]
          ·rcases Bi.out with h | h
           ·exact absurd h c
           ·rw[h,QR.out (λh=>c ⟨h.2.1,h.2.2⟩)];rfl)
         by_cases iT:j<ln
         ·cases rv with
          | false=>
           have FN:=fin (by simp);rw[<-FN.out]at v;unfold rz at v;clear fin FN Bi;go_wp2_with fail;go_roundw
           case rel=>exact⟨a+1,by omega,by go_num,v,r,s,f,jT⟩
           case measure=>simp[intOf];omega
          | true=>
           by_cases LQ:out x=vd
           ·have FN:=fin (λh=>h.2.2 LQ);rw[<-FN.out]at v;unfold rz at v;rw[LQ]at ox;clear fin FN Bi LQ;go_wp2_with fail;go_roundw
            case rel=>exact⟨a+1,by omega,by go_num,v,r,s,f,jT⟩
            case measure=>simp[intOf];omega
           ·have ay8:¬ ((out x:Int)=(vd:Int)):=by omega
            obtain⟨gr,e,hgr,qR⟩:=De.out (by omega);subst e;obtain⟨t,ht⟩:∃ t,(toS ns vs l)[j]?=some t:=⟨(toS ns vs l)[j]'(by rw[bW.out];exact iT),aB3 (by rw[bW.out];exact iT)⟩;have htM:=lq.out t (aCJ ht);have I:bZ (toS ns vs l) j=t:=by simp[bZ,List.getD,ht]
            have t4:W4.cell? ⟨gr,j,none⟩=some (.int .i64 (t:Nat)):=(f.out.cell (p:=⟨gr,j,none⟩) hgr).trans (by have h9:=qR j iT;rw[I]at h9;exact h9);have JH:Hid ((toS ns vs l).take (j+1)=(toS ns vs l).take j++[t]):=hid (by rw[List.take_add_one,ht];rfl);have wa:IntKind.i64.wrap ((pr:Int)+(t:Int))=(pr:Int)+(t:Int):=by rw[IntKind.wrap_i64];omega
            have rU:((toS ns vs l).take j).length=j:=by rw[List.length_take,bW.out];omega
            have hLl:(Lb ns vs out (aZ xs) vd k l a pr j).length<=2048+256:=by unfold Lb;rw[aCd,aCO,rU];omega
            clear fin qR ht I rU;generalize GY:Lb ns vs out (aZ xs) vd k l a pr j=L at *;unfold rz at v;obtain⟨E,G,rfl⟩:=ak v.out;have nJ:=hid (λq h=>(v.out.lt q h).1);go_wp2_with (at_builtin;go_must (refine aCE _ rfl (.tmp 111) (.tmp 126) 22 rfl W1.heap.size 3 i0 (.int .i64 0) 1 8 Tryz.underlying22 hi aT aP aO rfl (by decide) _ L.length (aI L) rfl (v.out.alloc _) ⟨W4.heap.size,0,none⟩ 1 1 [.int .i64 ((pr:Int)+(t:Int))] rfl rfl (dH W4 [.int .i64 ((pr:Int)+(t:Int))] _) (by intro y Y;simp at Y;rcases Y with rfl;rfl) (by decide) (by unfold maxLen;omega) (by omega) (by simp;omega) (W4.heap.size+1) (by simp) ?_));intro Q T X n d I qj;have H:=(aB4 W4.heap.size W4).alloc (aB2 _) (.cells #[.int .i64 ((pr:Int)+(t:Int))] 3);have uz:W4.heap.size<=X.heap.size:=by
             have:=d.size;simp at this;omega
            have GX:(Value.slice E L.length G).ownBlock≠some w.heap.size:=λe=>by have:=nJ.out _ e;omega
            have A:=d.block w.heap.size (by rw[aB7];have:=r.out.lt;omega) (λe=>GX e.symm);have M:Hid (Two X w.heap.size J (.slice none 0 0)):=hid (by
             have B:=r.out.below H r.out.lt;exact⟨(aCn (a:=⟨w.heap.size,0,none⟩) A).trans B.c0,(aCn (a:=⟨w.heap.size,1,none⟩) A).trans B.c1,(aCo (a:=⟨w.heap.size,0,none⟩) A).trans B.f0,(aCo (a:=⟨w.heap.size,1,none⟩) A).trans B.f1⟩)
            have Z:=hid ((s.out.keeps H).xk d (aY (s.out.keeps H).out (v.out.alloc (.cells #[.int .i64 ((pr:Int)+(t:Int))] 3)) (by decide)) (λq hq=>by
             cases hv:(V q).ownBlock with
             | none=>exact aCa rfl
             | some z=>
              refine aCb λe=>?_;have h1:=nJ.out z e.symm;have h2:=Dc.out q hq z hv;omega))
            have L7:Hid (rz X W1.heap.size (.slice (some ⟨Q,0,none⟩) (L.length+1) T) (Lb ns vs out (aZ xs) vd k l a pr (j+1))):=hid (by
             have agc:nW ns vs out (aZ xs) vd k l a++((toS ns vs l).take j).map (λq=>pr+q)=L:=GY;unfold rz Lb;rw[JH.out,aCM,<-List.append_assoc,agc,aCd,show aI (L++List.map (λj=>pr+j) [t])=aI L++[.int .i64 ((pr:Int)+(t:Int))] by simp[aI]];exact n)
            have jE:=hid ((f.out.alloc (by omega) (.cells #[.int .i64 ((pr:Int)+(t:Int))] 3)).grown d (by simp;omega) (λq h=>by have:=nJ.out q h;omega));have hc7:Hid (CJ true (out x) vd (j+1)):=hid (aCa ⟨rfl,LQ⟩);clear n d I H A v r s f GX;go_wp2_with fail;go_roundw
            case rel=>exact⟨j+1,by omega,by go_num,hc7,L7,M,Z,jE,by omega⟩
            case measure=>simp[intOf];omega
         ·have FN:=fin (λh=>iT h.1);rw[<-FN.out]at v;unfold rz at v;obtain rfl:j=ln:=by omega
          clear fin FN Bi;go_wp2_with fail;go_roundw
          case rel=>exact⟨a+1,by omega,by go_num,v,r,s,f,jT⟩
          case measure=>simp[intOf];omega
      ·obtain rfl:a=8:=by omega
       have hsl:nW ns vs out (aZ xs) vd k l 8=rQ ns vs out (aZ xs) vd (k*vs.length+l):=by rw[FP ns vs out (aZ xs) vd qU]
       rw[hsl]at v;clear hsl;have Ud:(rQ ns vs out (aZ xs) vd (k*vs.length+l)).length<=2048:=by
        rw[FP ns vs out (aZ xs) vd qU];exact aCW (zC ns vs out (aZ xs) vd k l 8) (aCW (Nat.mul_le_mul_left 8 hM) (by omega))
       have P6:k*vs.length+l<796594185*256:=aCq (xh (show k<796594185 by omega) qU) (Nat.mul_le_mul_left _ hM);have Iy:Hid (k*vs.length+(l+1)=(k*vs.length+l)+1):=hid rfl;have agS:=Dc;generalize hqE:k*vs.length+l=qq at *;generalize GY:rQ ns vs out (aZ xs) vd qq=L at *;obtain⟨E,G,rfl⟩:=ak v.out;obtain⟨sQ,sN,rfl⟩:=ak s.out.out;have k0:=r.out.c0;have H:=(aB4 W2.heap.size W2).alloc (aB2 _) (.cells #[.slice E L.length G] 22);go_wp2_with (at_builtin;go_must (refine aCE _ rfl (.tmp 132) (.tmp 134) 23 rfl (w.heap.size+1) 22 i1 (.slice none 0 0) 1 24 Tryz.underlying23 jU gJ gI gG rfl (by decide) _ qq ((List.range qq).map V) rfl (s.out.out.alloc _) ⟨W2.heap.size,0,none⟩ 1 1 [.slice E L.length G] rfl rfl (dH W2 [.slice E L.length G] _) (by intro y Y;simp at Y;rcases Y with rfl;rfl) (by decide) (by unfold maxLen;omega) (by omega) (by simp;omega) (W2.heap.size+1) (by simp) ?_));intro Q T X n d I qj;have uz:W2.heap.size<=X.heap.size:=by
        have:=d.size;simp at this;omega
       have rV:=r.out.lt;have qx:(Value.slice sQ qq sN).ownBlock≠some w.heap.size:=λe=>by have:=(s.out.out.lt _ e).1;omega
       have A:=d.block w.heap.size (by rw[aB7];omega) (λe=>qx e.symm);have B:=r.out.below H rV;have M:Two X w.heap.size (.slice sQ qq sN) (.slice none 0 0):=⟨(aCn (a:=⟨w.heap.size,0,none⟩) A).trans B.c0,(aCn (a:=⟨w.heap.size,1,none⟩) A).trans B.c1,(aCo (a:=⟨w.heap.size,0,none⟩) A).trans B.f0,(aCo (a:=⟨w.heap.size,1,none⟩) A).trans B.f1⟩;have p8:=(bQ v.out (show w.heap.size+1<=W1.heap.size by omega)).alloc (.cells #[.slice E L.length G] 22);have Z:=nL (s.out.keeps H) (x:=.slice E L.length G) (by rw[GY,ny];exact p8) (by decide) d n;have q0:=M.c0;have q1:=M.f0;have D1:=hid (M.set0 (.slice (some ⟨Q,0,none⟩) (qq+1) T));have D2:=hid (Z.set (show w.heap.size<w.heap.size+1 by omega) 0 (.slice (some ⟨Q,0,none⟩) (qq+1) T));have D4:=hid (((f.out.alloc f.out.size (.cells #[.slice E L.length G] 22)).grown d (by simp;omega) (λq h=>by have:=(s.out.out.lt q h).1;omega)).setCell (p:=⟨w.heap.size,0,none⟩) (aB2 _) (.slice (some ⟨Q,0,none⟩) (qq+1) T));clear n d I H v r s f p8 M Z qx A B;go_wp2_with fail;go_roundw
       case rel=>exact⟨l+1,_,_,by omega,by go_num,D1,by rw[Iy.out];exact D2,D4,by simp;omega⟩
       case measure=>simp[intOf];omega
    ·obtain rfl:l=vs.length:=by omega
     have VS:Hid ((k+1)*vs.length=k*vs.length+vs.length):=hid (Nat.succ_mul _ _);go_wp2_with fail;go_roundw
     case rel=>exact⟨k+1,J,V,by omega,by go_num,r,by rw[VS.out];exact s,f,hsz⟩
     case measure=>simp[intOf];omega
  ·obtain rfl:k=K:=by omega
   have Am:=hid JJ.out.fr;have hF:=Am.out.PM;have fr0:=Am.out.c0;have hkM:k*vs.length<=796594185*256:=Nat.mul_le_mul hK hM;go_wp2_with fail;clear Ho
   go_loopw [18] (λi o=>∃ (p:Nat) (vK:Value) (U:Nat->Value),p<=ns.length/\i=.int .i64 p/\Hid (Two o w.heap.size J vK)/\Hid (fZ o (w.heap.size+1) 22 3 J (k*vs.length) V (λq=>aI (rQ ns vs out (aZ xs) vd q)))/\Hid (fZ o (w.heap.size+1) 132 4 vK p U (λq=>ax (nz ns vs q) (k*vs.length) (k*vs.length)))/\Hid (Below w.heap.size w o)/\w.heap.size+1<=o.heap.size) (λi _=>ns.length - (intOf i).toNat)
   case atStart=>exact⟨0,_,λ_=>.slice none 0 0,aCg _,rfl,r,s,hid (uk _ _ _ _ _ _),f,hsz⟩
   case round=>
    obtain⟨p,vK,U,hp,rfl,r,s,O,f,hsz⟩:=hrel;rename World=>W1;have zJ:=(f.out.cell (p:=⟨R,0,none⟩) hR).trans r0;have UT:=(f.out.cell (p:=⟨F,0,none⟩) hF).trans fr0;by_cases XX:p<ns.length
    ·have HUB:=hid (λq (hq:q<p) z (h:(U q).ownBlock=some z)=>((O.out.row q hq).lt z h).2);go_wp2_with fail
     go_loopw [19,20] (λkept i o=>∃ D:Nat,D<=k/\i=.int .i64 D/\Hid (o.ownsRow W1.heap.size 4 1 kept (D*vs.length) (ax (nz ns vs p) (D*vs.length) (D*vs.length)))/\Hid (Two o w.heap.size J vK)/\Hid (fZ o (w.heap.size+1) 22 3 J (k*vs.length) V (λq=>aI (rQ ns vs out (aZ xs) vd q)))/\Hid (fZ o (w.heap.size+1) 132 4 vK p U (λq=>ax (nz ns vs q) (k*vs.length) (k*vs.length)))/\Hid (Below w.heap.size w o)/\W1.heap.size<=o.heap.size) (λ_ i _=>k - (intOf i).toNat)
     case atStart=>exact⟨0,aCg _,rfl,by rw[Nat.zero_mul];exact hid (aCp _ _ _ _),r,s,O,f,aB2 _⟩
     case round=>
      obtain⟨D,wy,rfl,v,r,s,O,f,jT⟩:=hrel;rename World=>W2;clear zJ UT;have Ho:=(f.out.cell (p:=⟨P,0,none⟩) hP).trans f0;by_cases Ul:D<k
      ·go_wp2_with fail;clear Ho
       go_loopw [19,21] (λkept i o=>∃ u:Nat,u<=vs.length/\i=.int .i64 u/\Hid (o.ownsRow W1.heap.size 4 1 kept (D*vs.length+u) (ax (nz ns vs p) (D*vs.length+u) (D*vs.length+u)))/\Hid (Two o w.heap.size J vK)/\Hid (fZ o (w.heap.size+1) 22 3 J (k*vs.length) V (λq=>aI (rQ ns vs out (aZ xs) vd q)))/\Hid (fZ o (w.heap.size+1) 132 4 vK p U (λq=>ax (nz ns vs q) (k*vs.length) (k*vs.length)))/\Hid (Below w.heap.size w o)/\W1.heap.size<=o.heap.size) (λ_ i _=>vs.length - (intOf i).toNat)
       case atStart=>exact⟨0,aCg _,rfl,v,r,s,O,f,jT⟩
       case round=>
        obtain⟨u,af5,rfl,v,r,s,O,f,jT⟩:=hrel;rename World=>W3;by_cases vD:u<vs.length
        ·obtain⟨b,cb,nM⟩:=Nb.out u vD;have zJ:=(f.out.cell (p:=⟨R,0,none⟩) hR).trans r0;have MO:=(f.out.cell (p:=⟨R,1,none⟩) hR).trans a1;have Hw:=(f.out.cell (p:=⟨gs,u,none⟩) nD).trans cb;have C:=λm=>KD.out (W3.drewN m) b (aX vs u) p XX (aCl f.out m) ((nM.below f.out).drewN m);have zV:D*vs.length+u<796594185*256:=aCq (xh (show D<796594185 by omega) vD) (Nat.mul_le_mul_left _ hM);have HKP:Hid (nz ns vs p (D*vs.length+u)=iq (au ns p) p (aX vs u)):=hid (by unfold nz;rw[uV vD];rfl);clear cb nM;generalize iq (au ns p) p (aX vs u)=kv at *;go_wp2_with fail
         go_quiet ((go_at_call 83;exact Calls.quiet_of_same (C _)))
         have bF:=hid (aCl f.out nq);have bq:=aCl (aB4 W3.heap.size W3) nq;have nK:=hid (ai v.out bq);have p9:=hid (r.out.below bq r.out.lt);have sV:=hid (s.out.keeps bq);have VQ:=hid (O.out.keeps bq);have Kk:W1.heap.size<=(W3.drewN nq).heap.size:=jT;clear C zJ MO Hw bq v r s O f;generalize W3.drewN nq=W4 at *;have Iy:Hid (D*vs.length+(u+1)=(D*vs.length+u)+1):=hid rfl;generalize hqE:D*vs.length+u=qq at *;obtain⟨E,G,rfl⟩:=ak nK.out;have nJ:=hid (λq h=>(nK.out.lt q h).1);go_wp2_with (at_builtin;go_must (refine aCE _ rfl (.tmp 177) (.tmp 179) 132 rfl W1.heap.size 4 i2b (.bool false) 1 1 Tryz.underlying132 vF TV TT TR rfl (by decide) _ qq (ax (nz ns vs p) qq qq) rfl (nK.out.alloc _) ⟨W4.heap.size,0,none⟩ 1 1 [.bool kv] rfl rfl (dH W4 [.bool kv] _) (by intro y Y;simp at Y;rcases Y with rfl;rfl) (by decide) (by unfold maxLen;omega) (by omega) (by simp;omega) (W4.heap.size+1) (by simp) ?_));intro Q T X n d I qj;have H:=(aB4 W4.heap.size W4).alloc (aB2 _) (.cells #[.bool kv] 4);have uz:W4.heap.size<=X.heap.size:=by
          have:=d.size;simp at this;omega
         have GX:(Value.slice E qq G).ownBlock≠some w.heap.size:=λe=>by have:=nJ.out _ e;omega
         have rV:=p9.out.lt;have A:=d.block w.heap.size (by rw[aB7];omega) (λe=>GX e.symm);have M:Hid (Two X w.heap.size J vK):=hid (by
          have B:=p9.out.below H rV;exact⟨(aCn (a:=⟨w.heap.size,0,none⟩) A).trans B.c0,(aCn (a:=⟨w.heap.size,1,none⟩) A).trans B.c1,(aCo (a:=⟨w.heap.size,0,none⟩) A).trans B.f0,(aCo (a:=⟨w.heap.size,1,none⟩) A).trans B.f1⟩)
         have Z:=hid ((sV.out.keeps H).xk d (aY (sV.out.keeps H).out (nK.out.alloc (.cells #[.bool kv] 4)) (by decide)) (λq hq=>aY ((sV.out.keeps H).row q hq) (nK.out.alloc (.cells #[.bool kv] 4)) (by decide)));have U7:=hid ((VQ.out.keeps H).xk d (aY (VQ.out.keeps H).out (nK.out.alloc (.cells #[.bool kv] 4)) (by decide)) (λq hq=>by
          cases hv:(U q).ownBlock with
          | none=>exact aCa rfl
          | some z=>
           refine aCb λe=>?_;have h1:=nJ.out z e.symm;have h2:=HUB.out q hq z hv;omega))
         have L7:Hid (X.ownsRow W1.heap.size 4 1 (.slice (some ⟨Q,0,none⟩) (qq+1) T) (qq+1) (ax (nz ns vs p) (qq+1) (qq+1))):=hid (by
          rw[Lu,HKP.out];exact n)
         have jE:=hid ((bF.out.alloc (by omega) (.cells #[.bool kv] 4)).grown d (by simp;omega) (λq h=>by have:=nJ.out q h;omega));clear n d I H A nK p9 sV VQ bF GX;go_wp2_with fail;go_roundw
         case rel=>exact⟨u+1,by omega,by go_num,by rw[Iy.out];exact L7,M,Z,U7,jE,by omega⟩
         case measure=>simp[intOf];omega
        ·obtain rfl:u=vs.length:=by omega
         have VS:Hid ((D+1)*vs.length=D*vs.length+vs.length):=hid (Nat.succ_mul _ _);go_wp2_with fail;go_roundw
         case rel=>exact⟨D+1,by omega,by go_num,by rw[VS.out];exact v,r,s,O,f,jT⟩
         case measure=>simp[intOf];omega
      ·obtain rfl:D=k:=by omega
       obtain⟨E,G,rfl⟩:=ak v.out;obtain⟨sQ,sN,rfl⟩:=ak O.out.out;have k0:=r.out.c1;have H:=(aB4 W2.heap.size W2).alloc (aB2 _) (.cells #[.slice E (D*vs.length) G] 132);go_wp2_with (at_builtin;go_must (refine aCE _ rfl (.tmp 185) (.tmp 187) 77 rfl (w.heap.size+1) 132 i3 (.slice none 0 0) 1 24 Tryz.underlying77 hi3 TU TS TQ rfl (by decide) _ p ((List.range p).map U) rfl (O.out.out.alloc _) ⟨W2.heap.size,0,none⟩ 1 1 [.slice E (D*vs.length) G] rfl rfl (dH W2 [.slice E (D*vs.length) G] _) (by intro y Y;simp at Y;rcases Y with rfl;rfl) (by decide) (by unfold maxLen;omega) (by omega) (by simp;omega) (W2.heap.size+1) (by simp) ?_));intro Q T X n d I qj;have uz:W2.heap.size<=X.heap.size:=by
        have:=d.size;simp at this;omega
       have rV:=r.out.lt;have qx:(Value.slice sQ p sN).ownBlock≠some w.heap.size:=λe=>by have:=(O.out.out.lt _ e).1;omega
       have A:=d.block w.heap.size (by rw[aB7];omega) (λe=>qx e.symm);have B:=r.out.below H rV;have M:Two X w.heap.size J (.slice sQ p sN):=⟨(aCn (a:=⟨w.heap.size,0,none⟩) A).trans B.c0,(aCn (a:=⟨w.heap.size,1,none⟩) A).trans B.c1,(aCo (a:=⟨w.heap.size,0,none⟩) A).trans B.f0,(aCo (a:=⟨w.heap.size,1,none⟩) A).trans B.f1⟩;have p8:=(bQ v.out (show w.heap.size+1<=W1.heap.size by omega)).alloc (.cells #[.slice E (D*vs.length) G] 132);have U7:=nL (O.out.keeps H) (x:=.slice E (D*vs.length) G) (by rw[zM];exact p8) (by decide) d n;have Z:=(s.out.keeps H).grown (O.out.out.alloc (.cells #[.slice E (D*vs.length) G] 132)) d (by decide) (by decide);have q0:=M.c1;have q1:=M.f1;have D1:=hid (M.set1 (.slice (some ⟨Q,0,none⟩) (p+1) T));have D2:=hid (U7.set (show w.heap.size<w.heap.size+1 by omega) 1 (.slice (some ⟨Q,0,none⟩) (p+1) T));have D3:=hid (Z.set (show w.heap.size<w.heap.size+1 by omega) 1 (.slice (some ⟨Q,0,none⟩) (p+1) T));have D4:=hid (((f.out.alloc f.out.size (.cells #[.slice E (D*vs.length) G] 132)).grown d (by simp;omega) (λq h=>by have:=(O.out.out.lt q h).1;omega)).setCell (p:=⟨w.heap.size,1,none⟩) (aB2 _) (.slice (some ⟨Q,0,none⟩) (p+1) T));clear n d I H v r s O f p8 M Z U7 qx A B;go_wp2_with fail;go_roundw
       case rel=>exact⟨p+1,_,_,by omega,by go_num,D1,D3,D2,D4,by simp;omega⟩
       case measure=>simp[intOf];omega
    ·obtain rfl:p=ns.length:=by omega
     have rV:=r.out.lt;have NM:=hid (show pI W1 w.heap.size (k*vs.length) (rQ ns vs out (aZ xs) vd) ns.length (nz ns vs) from ⟨rV,⟨_,r.out.c0,IR s.out⟩,⟨_,r.out.c1,Xy (Nat.mul_pos uC GV) O.out⟩⟩);clear r s O;go_wp2_with fail;refine(Nn.out W1 w.heap.size NM.out).mono ?_;rintro e w5 ⟨g5,good,rfl,hg5,Yd,vG,bi⟩;have fH:=hid (f.out.trans (bi.mono f.out.size));have HBO:=hid Yd;have Nl:=hid vG;clear Yd vG bi zJ UT;go_wp2_with fail;refine(WH.out w5 fH.out).mono ?_;rintro e w6 ⟨g6,rfl,nM,hg6,gT⟩;have jV:=hid (fH.out.trans (gT.mono fH.out.size));have H6:=hid nM;have H5:=hid (λi (hi:i<k*vs.length)=>(gT.cell (p:=⟨g5,i,none⟩) HBO.out.blk.2).trans (HBO.out.get hi));have hMN:vs.length<=k*vs.length:=by
      have:=Nat.mul_le_mul_right vs.length (show 1<=k from uC);omega
     clear nM gT f fH;go_wp2_with fail
     go_loopw [25] (λi o=>∃ u:Nat,u<=vs.length/\i=.int .i64 u/\Hid (∀ j,j<u->¬ (aX vs j (ns.length - 1)=hd/\good j=true))/\w6=o) (λi _=>vs.length - (intOf i).toNat)
     case atStart=>exact⟨0,aCg _,rfl,hid (λj h=>by omega),rfl⟩
     case round=>
      obtain⟨u,af5,rfl,HA,e⟩:=hrel;subst e;by_cases vD:u<vs.length
      ·have c6:=H6.out.cell u vD;have c5:=H5.out u (by omega);have aP:(u:Int)<((k*vs.length:Nat):Int):=by omega
       generalize hNE:k*vs.length=N at *;have rZ:Hid (((aX vs u (ns.length - 1)==hd)&&good u)=false->∀ j,j<u+1->¬ (aX vs j (ns.length - 1)=hd/\good j=true)):=hid (λe j hj=>by
        by_cases c:j=u
        ·subst c;rintro ⟨h1,h2⟩;rw[h1,h2]at e;simp at e
        ·exact HA.out j (by omega))
       have HY:Hid (((aX vs u (ns.length - 1)==hd)&&good u)=true->∃ i,i<vs.length/\aX vs i (ns.length - 1)=hd/\good i=true):=hid (λe=>by
        rw[aCH,beq_iff_eq]at e;exact⟨u,vD,e.1,e.2⟩)
       generalize (aX vs u (ns.length - 1)==hd)=fv at *;generalize hgv:good u=gv at *;clear hgv;cases fv with
       | false=>
        go_wp2_with fail;go_roundw
        case rel=>exact⟨u+1,by omega,by go_num,hid (rZ.out rfl),trivial⟩
        case measure=>simp[intOf];omega
       | true=>
        cases gv with
        | false=>
         go_wp2_with fail;go_roundw
         case rel=>exact⟨u+1,by omega,by go_num,hid (rZ.out rfl),trivial⟩
         case measure=>simp[intOf];omega
        | true=>
         go_wp2_with fail;go_ret;subst hNE;exact⟨true,good,rfl,⟨λ_=>HY.out rfl,λ_=>rfl⟩,Nl.out,jV.out⟩
      ·obtain rfl:u=vs.length:=by omega
       go_wp2_with fail;go_ret;exact⟨false,good,rfl,⟨λh=>(by cases h),λ⟨i,h1,h2⟩=>absurd h2 (HA.out i h1)⟩,Nl.out,jV.out⟩
theorem Pm(R F gp cap P:Nat)(ns:List Nd)(bs vs:List Nat)(aa:Nat->Bool)(us:List (List Nat))(xs:List Nat)(hd:Bool)(vd:Nat)(w:World)(h:tJ w R F gp cap ns bs vs)(hf:BJ w P us.length (dD ns aa (aL ns aa) us) (mO xs))(hg:Good ns)(hM:vs.length<=256)(hl:jf ns (aW ns ns.length) aa)(hL:gB ns vs.length (aX vs))
  (hE:gU ns aa (aL ns aa) us xs) (hx:xs.length=8*us.length) (hK:us.length<=796594185) :
  Calls Tryz.prog 109 #[.pointer (some ⟨R,0,none⟩),.pointer (some ⟨P,0,none⟩),.bool hd,.int .i64 (vd:Nat)] w λe w'=>∃ b:Bool,e=.returned (.bool b)/\(b=true↔Nr ns vd hd)/\Below w.heap.size w w':=by
 have g:=Tx hg hL;have c:0<us.length:=(aB9.1 hE.first).1
 have i:=zn hE hx;have k:=Za ns vs (dD ns aa (aL ns aa) us) (aZ xs) vd i;have q:=hg.le;have l:us.length*vs.length<=274877906944:=aCW (Nat.mul_le_mul hK hM) (by omega);refine(aa6 R F gp cap P us.length ns bs vs _ xs hd vd w h hf hg hM g c hK i (λW m n=>?_)).mono ?_
 ·exact Cb JW m _ ns.length _ _ W n (Nat.mul_pos c g) (λa d b f=>NJ k d f)
   (λa d=>aCW (zC ns vs _ _ vd _ _ 8) (aCW (Nat.mul_le_mul_left 8 hM) (by omega))) (λa d j=>La ns vs _ _ vd _ _ j 8) l (by omega)
 ·rintro e w' ⟨b,good,rfl,f,o,p⟩;refine⟨b,rfl,?_,p⟩;rw[f,<-WG hg hl hE hx vd hd,<-DR hg hL k o c hd];simp only[Nat.zero_mul,aCw]
section
variable (s:ByteArray) (w:World)
theorem aby(hm:s.size<=maxLen)(h:(af s).1≠0):Calls Tryz.prog 60 #[.string s] w (oJ s w):=by
 have C:=λW=>fe s W hm;unfold dF at C;unfold oJ;generalize af s=p at *;have k:((p.1:Int) !=0)=true:=by rw[bne_iff_ne];omega
 go_enter Tryz.func60,Tryz.ntmps60;go_wp2_with fail;refine(C _).mono ?_;rintro e l ⟨c,⟨_,rfl⟩ | ⟨d,_⟩⟩
 ·simp only[aB7]at c;have a:=(dx w (.bool false) (.bool false) (.bool false) 102).below c (by omega);have f:=a.c0;have g:=a.c1;have i:=a.c2;have m:=a.fz 0 (by omega);have n:=a.fz 1 (by omega);have o:=a.fz 2 (by omega);have j:=hid (((aB4 w.heap.size w).alloc (aB2 _) (.cells #[.bool false,.bool false,.bool false] 102)).trans (c.mono (by omega)));clear C c a;go_wp2_with fail;refine dS (cs:=[.bool false,.bool false,.bool false]) (v:=.int .i64 (p.1:Nat)) (b:=w.heap.size) Tryz.results60 ?_ ?_ ?_ ?_ Tryz.underlying102 rfl Tryz.xM ?_
  ·rfl
  ·rfl
  ·rfl
  ·exact qE f g i _ _ _
  ·exact⟨false,false,false,rfl,λd=>absurd d h,λ_=>⟨rfl,rfl,rfl⟩,((j.out.setCell (p:=⟨w.heap.size,0,none⟩) (aB2 _) _).setCell (p:=⟨w.heap.size,1,none⟩) (aB2 _) _).setCell (p:=⟨w.heap.size,2,none⟩) (aB2 _) _⟩
 ·exact absurd d h
theorem Zu(hm:s.size<=maxLen)(h:(af s).1=0):Calls Tryz.prog 60 #[.string s] w (oJ s w):=by
 have C:=λW=>fe s W hm;unfold dF at C;have G:=hid (iM h);have SG:=hid (AR h);unfold oJ;generalize af s=p at *;obtain⟨p1,ns⟩:=p;dsimp only at *;subst h;obtain⟨a,J⟩:=ab1 ns (aW ns ns.length);have E:=hid J;have rC:=hid (λd xs (h:gU ns a (aL ns a) d xs)=>Ac G.out SG.out J h);clear J;go_enter Tryz.func60,Tryz.ntmps60;go_wp2_with fail;refine(C _).mono ?_;rintro e w1 ⟨r,⟨h0,_⟩ | ⟨_,F,rfl,K⟩⟩
 ·exact absurd rfl h0
 simp only[aB7]at r K;have T1:=hid ((dx w (.bool false) (.bool false) (.bool false) 102).below r (by omega));have aK:=hid (((aB4 w.heap.size w).alloc (aB2 _) (.cells #[.bool false,.bool false,.bool false] 102)).trans (r.mono (by omega)));have L:=r.size;simp only[aB7]at L;obtain⟨H,cap,zX⟩:=Rz K G.out.pos;have RW:=hid (DI _ H cap ns F w1 zX G.out);clear C r K zX;go_wp2_with fail;refine RW.out.mono ?_;rintro e t ⟨R,vs,rfl,Mf,Ff,M,I⟩;have N:=hid Mf;have O:=hid Ff;have bF:=hid (aK.out.trans (I.mono (by omega)));have T3:=hid (T1.out.below I (by omega));have qQ:=I.size;clear Mf Ff I RW aK T1;go_wp2_with fail;refine(UQ R _ H cap ns F vs a t N.out G.out M E.out O.out rC.out).mono ?_;rintro e w4 ⟨d,xs,rfl,P,hx,Q,u⟩;have S:=hid P;have T:=hid hx;have hK:=rC.out d xs P;have U:=hid Q;have m:=hid (N.out.below u);have dW:=hid (bF.out.trans (u.mono (by omega)));have T4:=hid (T3.out.below u (by omega));have Bd:=u.size;have hP:=Q.lt;clear P hx Q u N bF T3;go_wp2_with fail;refine(Pm R _ H cap t.heap.size ns F vs a d xs false 2 w4 m.out U.out G.out M E.out O.out S.out T.out hK).mono ?_;rintro e w5 ⟨b1,rfl,aC,n⟩;have V:=hid aC;have X:=hid (U.out.below n);have x:=hid (m.out.below n);have fH:=hid (dW.out.trans (n.mono (by omega)));have T5:=hid (T4.out.below n (by omega));have vB:=n.size;clear aC n U m dW T4;go_wp2_with fail;refine(Pm R _ H cap t.heap.size ns F vs a d xs true 1 w5 x.out X.out G.out M E.out O.out S.out T.out hK).mono ?_;rintro e f ⟨b2,rfl,ae,y⟩;have sW:=hid ae;have z:=hid (X.out.below y);have jV:=hid (fH.out.trans (y.mono (by omega)));have T6:=hid (T5.out.below y (by omega));have vz:=y.size;clear ae y X x fH T5;have TC:=hid (dx f (.bool !b1) (.bool !b2) (.bool true) 102);have b7:=(aB4 f.heap.size f).alloc (aB2 _) (.cells #[.bool !b1,.bool !b2,.bool true] 102);obtain⟨vO,Y,CX,xY,rfl,Ef,Z⟩:=z.out.c1;have Ug:((List.range d.length).map (dD ns a (aL ns a) d)).length=d.length:=by simp
 rw[Ug]at Y Ef Z;have RF:=hid Z;have Ao:=hid Y;have aaz:Hid (∀ i,i<d.length->bZ ((List.range d.length).map (dD ns a (aL ns a) d)) i=dD ns a (aL ns a) d i):=hid (λi hi=>by simp[bZ,List.getD,hi]);have hPl:t.heap.size<f.heap.size:=by omega
 have A:=hid b7;clear b7 z Z Y;go_wp2_with fail
 go_loopw [11] (λi wq=>∃ (k:Nat) (g:Bool),k<=d.length/\i=.int .i64 k/\Hid (g=true↔∀ j,j<k->dD ns a (aL ns a) d j≠2)/\Hid (Three wq f.heap.size (.bool !b1) (.bool !b2) (.bool g))/\Hid (Below f.heap.size f wq)) (λi _=>d.length - (intOf i).toNat)
 case atStart=>exact⟨0,true,aCg _,rfl,hid ⟨λ_ j h=>by omega,λ_=>rfl⟩,TC,A⟩
 case round=>
  obtain⟨k,g,hk,rfl,HL,l,o⟩:=hrel;rename World=>W0;clear TC A;have p1:=(o.out.cell (p:=⟨t.heap.size,1,none⟩) hPl).trans Ao.out;by_cases B:k<d.length
  ·obtain⟨gO,e,Bh,Fa⟩:=RF.out (by omega);subst e;have ok:W0.cell? ⟨gO,k,none⟩=some (.int .i64 (dD ns a (aL ns a) d k:Nat)):=(o.out.cell (p:=⟨gO,k,none⟩) Bh).trans (by have h9:=Fa k B;rw[aaz.out k B]at h9;exact h9);have hW6:=l.out.lt;clear Fa;by_cases D:dD ns a (aL ns a) d k=2
   ·have rA:Hid (false=true↔∀ j,j<k+1->dD ns a (aL ns a) d j≠2):=hid ⟨λh=>(by cases h),λh=>absurd D (h k (by omega))⟩;rw[D]at ok;have q2:=l.out.c2;have z2:=l.out.fz 2 (by omega);have D1:=hid (l.out.set2 (.bool false));have D2:=hid (o.out.setCell (p:=⟨f.heap.size,2,none⟩) (aB2 _) (.bool false));clear D;go_wp2_with fail;go_roundw
    case rel=>exact⟨k+1,false,by omega,by go_num,rA,D1,D2⟩
    case measure=>simp[intOf];omega
   ·have rA:Hid (g=true↔∀ j,j<k+1->dD ns a (aL ns a) d j≠2):=hid ⟨λh j hj=>by
      by_cases c:j=k
      ·subst c;exact D
      ·exact HL.out.1 h j (by omega),λh=>HL.out.2 λj hj=>h j (by omega)⟩
    have XW:¬ ((dD ns a (aL ns a) d k:Int)=2):=by omega
    clear D;go_wp2_with fail;go_roundw
    case rel=>exact⟨k+1,g,by omega,by go_num,rA,l,o⟩
    case measure=>simp[intOf];omega
  ·obtain rfl:k=d.length:=by omega
   have KD:=hid (show Kind ns (!b1) (!b2) g from ⟨by rw[<-V.out];simp,by rw[<-sW.out];simp,by rw[HL.out];exact acT G.out E.out S.out T.out⟩);have q:=hid (T6.out.below o.out (by omega));have Nq:=hid (jV.out.trans (o.out.mono (by omega)));have d0:=q.out.c0;have d1:=q.out.c1;have d2:=q.out.c2;have e0:=q.out.fz 0 (by omega);have e1:=q.out.fz 1 (by omega);have e2:=q.out.fz 2 (by omega);have g0:=l.out.c0;have g1:=l.out.c1;have g2:=l.out.c2;go_wp2_with fail;refine dS (cs:=[.bool !b1,.bool !b2,.bool g]) (v:=.int .i64 0) (b:=w.heap.size) Tryz.results60 ?_ ?_ ?_ ?_ Tryz.underlying102 rfl Tryz.xM ?_
   ·rfl
   ·rfl
   ·rfl
   ·exact qE d0 d1 d2 _ _ _
   ·exact⟨!b1,!b2,g,rfl,λ_=>KD.out,λh=>absurd rfl h,((Nq.out.setCell (p:=⟨w.heap.size,0,none⟩) (aB2 _) _).setCell (p:=⟨w.heap.size,1,none⟩) (aB2 _) _).setCell (p:=⟨w.heap.size,2,none⟩) (aB2 _) _⟩
theorem Zv(hm:s.size<=maxLen):Calls Tryz.prog 60 #[.string s] w (oJ s w):=by
 by_cases h:(af s).1=0
 ·exact Zu s w hm h
 ·exact aby s w hm h
end
end Go.Proofs.YtjagijohfkffiabGreat
namespace Go.Proofs.YtjagijohfkffiabGreat.classes
open Go.ChangeShapes Go.WideShapes Go.ChangeAt Go.RowKit
open Go.ChangeMaps (open_string shut_string)
set_option linter.unusedVariables false
theorem WZ(a0:ByteArray)(w0:a0.size<=maxLen)(w:World) :
  Calls Tryz.prog 29 #[.string a0] w λe w'=>e=.returned (.bool true)/\Below w.heap.size w w':=by
 have d:=ado a0 w w0;have f:=λW=>Zv a0 W w0;unfold oJ at d f;generalize af a0=p at *;go_enter Tryz.func29,Tryz.ntmps29;go_wp2_with fail;refine d.mono ?_;rintro e n ⟨h,c1,i,rfl,j,k,b⟩;go_wp2_with fail;refine(f _).mono ?_;rintro e r ⟨o,c2,q,rfl,l,m,g⟩;obtain⟨rfl,rfl,rfl⟩:h=o/\c1=c2/\i=q:=by
  by_cases c:p.1=0
  ·exact afI (j c) (l c)
  ·obtain⟨rfl,rfl,rfl⟩:=k c;obtain⟨rfl,rfl,rfl⟩:=m c;exact⟨rfl,rfl,rfl⟩
 have B:=hid ((b.alloc b.size _).trans (g.mono (by have:=b.size;simp;omega)));have a:=(dx n (.bool h) (.bool c1) (.bool i) 102).below g (by simp);have s:=a.c0;have t:=a.c1;have u:=a.c2;have v:=a.lt;clear d f b g j l k m a;go_wp2;go_ret
 first | exact⟨rfl,B.out⟩ | exact⟨rfl,B.out.alloc B.out.size _⟩
end Go.Proofs.YtjagijohfkffiabGreat.classes
namespace Go.Proofs.YtjagijohfkffiabGreat
open Go.RowKit
set_option linter.unusedVariables false
def pV(zs:List Int)(j:Nat):Bool:=zs.any λz=>z==(j:Int)
def gm(n:Nat)(zs:List Int):Bool:=zs.all λz=>decide (0<=z)&&decide (z<(n:Int))
theorem qL{n:Nat}{zs:List Int}:gm n zs=true↔∀ z∈zs,0<=z/\z<(n:Int):=by simp[gm,List.all_eq_true]
theorem zm{zs:List Int}{j:Nat}:pV zs j=true↔(j:Int)∈zs:=by
 unfold pV;rw[List.any_eq_true];constructor
 ·rintro ⟨z,a,b⟩;have:z=(j:Int):=by simpa using b
  rw[<-this];exact a
 ·intro h;exact⟨_,h,by simp⟩
theorem afR{zs:List Int}{k:Nat}{z:Int}(h:zs[k]?=some z)(j:Nat):pV (zs.take (k+1)) j=(pV (zs.take k) j||z==(j:Int)):=by
 unfold pV;rw[List.take_add_one,h];simp
def six(e:Nat->Bool):Array Value:=#[.bool (e 0),.bool (e 1),.bool (e 2),.bool (e 3),.bool (e 4),.bool (e 5)]
theorem Tryz.mi:(Tryz.prog.info? 151).map (·.size)=some 6:=by kernel_rfl
theorem Cs(e:Nat->Bool):One (λi=>Value.bool (e i)) 6:=λi _=>rfl
def oK(n:Nat)(zs:List Int)(w:World)(e:Ending)(w':World):Prop:=
 ∃ f,e=.returned (.tuple #[.agg (six f),.bool (gm n zs)])/\(gm n zs=true->∀ j,j<6->f j=pV zs j)/\Below w.heap.size w w'
theorem Ij(a:Option Addr)(l c n:Nat)(zs:List Int)(w:World)(h:Ints w a l c zs)(hn:n<=6) :
  Calls Tryz.prog 87 #[.slice a l c,.int .i64 (n:Nat)] w (oK n zs w):=by
 have hl:=h.hlen;have H:=h.hcap;have I:=h.hmax;have U:=hid (λW (b:Below w.heap.size w W)=>h.below b);clear h;have J:dK (w.alloc (.cells #[.bool false,.bool false,.bool false,.bool false,.bool false,.bool false] 151)) w.heap.size 6 (λ_=>Value.bool false):=mW w (λ_=>Value.bool false) 6 151;have K:dK ((w.alloc (.cells #[.bool false,.bool false,.bool false,.bool false,.bool false,.bool false] 151)).alloc (.cells #[.bool false,.bool false,.bool false,.bool false,.bool false,.bool false] 151)) (w.heap.size+1) 6 (λi=>Value.bool (pV (zs.take 0) i)):=by
  have L:=mW (w.alloc (.cells #[.bool false,.bool false,.bool false,.bool false,.bool false,.bool false] 151)) (λ_=>Value.bool false) 6 151;rw[show (w.alloc (.cells #[.bool false,.bool false,.bool false,.bool false,.bool false,.bool false] 151)).heap.size=w.heap.size+1 by simp]at L;exact L
 have M:=(aB4 w.heap.size w).alloc (aB2 _) (.cells #[.bool false,.bool false,.bool false,.bool false,.bool false,.bool false] 151);have r:=hid (J.below ((aB4 (w.heap.size+1) (w.alloc (.cells #[.bool false,.bool false,.bool false,.bool false,.bool false,.bool false] 151))).alloc (by simp) (.cells #[.bool false,.bool false,.bool false,.bool false,.bool false,.bool false] 151)) (by omega));have N:=hid K;have O:=hid (M.alloc (by simp) (.cells #[.bool false,.bool false,.bool false,.bool false,.bool false,.bool false] 151));clear J K M;go_enter Tryz.func87,Tryz.ntmps87;go_wp2_with fail;generalize P:((w.alloc (.cells #[.bool false,.bool false,.bool false,.bool false,.bool false,.bool false] 151)).alloc (.cells #[.bool false,.bool false,.bool false,.bool false,.bool false,.bool false] 151))=W at *;have V:W.heap.size=w.heap.size+2:=by rw[<-P];simp
 clear P
 go_loopw [12] (λi C=>∃ k:Nat,k<=l/\i=.int .i64 k/\Hid (gm n (zs.take k)=true)/\Hid (dK C (w.heap.size+1) 6 (λi=>Value.bool (pV (zs.take k) i)))/\Hid (dK C w.heap.size 6 (λ_=>Value.bool false))/\Hid (Below w.heap.size w C)/\C.heap.size=w.heap.size+2) (λi _=>l - (intOf i).toNat)
 case atStart=>exact⟨0,aCg _,rfl,hid (by simp[gm]),N,r,O,V⟩
 case round=>
  obtain⟨k,hk,rfl,Q,q,D,s,X⟩:=hrel;rename World=>W0;clear N r O;by_cases E:k<l
  ·obtain⟨z,t⟩:∃ z,zs[k]?=some z:=⟨_,aB3 (by omega)⟩;obtain⟨b,o,Y,hb,R⟩:=(U.out W0 s.out).hcell (by omega);subst Y;have Z:=R k E;rw[show zs.getD k 0=z by simp[List.getD,t]]at Z;have u:=hid (aCJ t);have YG:Hid (gm n (zs.take (k+1))=(gm n (zs.take k)&&(decide (0<=z)&&decide (z<(n:Int))))):=hid (by unfold gm;rw[List.take_add_one,t];simp);have F:=hid (afR t);clear R t;by_cases g1:z<0
   ·have x:Hid (gm n zs=false):=hid (by
     cases e:gm n zs with
     | false=>rfl
     | true=>have:=qL.1 e z u.out;omega)
    go_wp2_with (first | (refine ql rfl 151 (.tmp 6) rfl (w.heap.size+1) 6 _ _ rfl q.out Tryz.underlying151 rfl Tryz.mi ?_) | (refine eP rfl 151 (.tmp 4) (.tmp 27) rfl w.heap.size 6 _ rfl rfl (D.out.there 0 6 (by omega)) Tryz.mi (Cs _) ?_))
    intro S g;have y:=hid (g.bD _ _ (aB2 _) s.out);have A:=g.at_.ww;clear g;go_wp2_with fail;refine dS (cs:=rv (λi=>Value.bool (pV (zs.take k) i)) 6) (v:=.bool false) (b:=w.heap.size) Tryz.results87 ?_ ?_ ?_ ?_ Tryz.underlying151 rfl (by rw[qG];exact Tryz.mi) ?_
    ·rfl
    ·rfl
    ·rfl
    ·exact A
    ·unfold oK;exact⟨pV (zs.take k),(by rw[x.out];rfl),(λh=>by rw[x.out]at h;cases h),y.out⟩
   ·have g1':decide (z<0)=false:=by simp;omega
    by_cases g2:(n:Int)<=z
    ·have x:Hid (gm n zs=false):=hid (by
      cases e:gm n zs with
      | false=>rfl
      | true=>have:=qL.1 e z u.out;omega)
     go_wp2_with (first | (refine ql rfl 151 (.tmp 6) rfl (w.heap.size+1) 6 _ _ rfl q.out Tryz.underlying151 rfl Tryz.mi ?_) | (refine eP rfl 151 (.tmp 4) (.tmp 27) rfl w.heap.size 6 _ rfl rfl (D.out.there 0 6 (by omega)) Tryz.mi (Cs _) ?_))
     intro S g;have y:=hid (g.bD _ _ (aB2 _) s.out);have A:=g.at_.ww;clear g;go_wp2_with fail;refine dS (cs:=rv (λi=>Value.bool (pV (zs.take k) i)) 6) (v:=.bool false) (b:=w.heap.size) Tryz.results87 ?_ ?_ ?_ ?_ Tryz.underlying151 rfl (by rw[qG];exact Tryz.mi) ?_
     ·rfl
     ·rfl
     ·rfl
     ·exact A
     ·unfold oK;exact⟨pV (zs.take k),(by rw[x.out];rfl),(λh=>by rw[x.out]at h;cases h),y.out⟩
    ·have g2':decide ((n:Int)<=z)=false:=by simp;omega
     obtain⟨m,rfl⟩:∃ m:Nat,z=(m:Int):=⟨z.toNat,by omega⟩;have g2n:decide (n<=m)=false:=by simp;omega
     have g3:decide ((6:Int)<=(m:Int))=false:=by simp;omega
     have g3n:decide (6<=m)=false:=by simp;omega
     have B:m<6:=by omega
     have yA:Hid (gm n (zs.take (k+1))=true):=hid (by
      rw[YG.out,Q.out];have e1:decide ((0:Int)<=(m:Int))=true:=by simp
      have e2:decide ((m:Int)<(n:Int))=true:=by simp;omega
      rw[e1,e2];rfl)
     have a0:=q.out.c m B;have a1:=q.out.f m B;have rZ:=hid (q.out.set m (.bool true));have YQ:=hid (rZ.out.congr (d:=λi=>Value.bool (pV (zs.take (k+1)) i)) (λj hj=>by
      unfold BL;rw[F.out j];by_cases e:j=m
      ·subst e;simp
      ·rw[aC1 e];have:((m:Int)==(j:Int))=false:=aCe.2 (by omega);rw[this];simp))
     have jD:=hid (D.out.other ⟨w.heap.size+1,m,none⟩ (.bool true) (by show w.heap.size+1≠w.heap.size;omega));have aM:=hid (s.out.setCell (p:=⟨w.heap.size+1,m,none⟩) (by show w.heap.size<=w.heap.size+1;omega) (.bool true));have i1:(0:Int)<=(m:Int):=by omega
     have i2:(m:Int)<6:=by omega
     clear g1 g2;go_wp2_with fail;go_roundw
     case rel=>exact⟨k+1,by omega,by go_num,yA,YQ,jD,aM,by simp;omega⟩
     case measure=>simp[intOf] <;> omega
  ·obtain rfl:k=l:=by omega
   have T:Hid (zs.take k=zs):=hid (List.take_of_length_le (by omega));have G:Hid (gm n zs=true):=hid (by have:=Q.out;rwa [T.out]at this);rw[T.out]at q;go_wp2_with (first | (refine ql rfl 151 (.tmp 6) rfl (w.heap.size+1) 6 _ _ rfl q.out Tryz.underlying151 rfl Tryz.mi ?_) | (refine eP rfl 151 (.tmp 4) (.tmp 31) rfl w.heap.size 6 _ rfl rfl (D.out.there 0 6 (by omega)) Tryz.mi (Cs _) ?_))
   intro S g;have y:=hid (g.bD _ _ (aB2 _) s.out);have A:=g.at_.ww;clear g;go_wp2_with fail;refine dS (cs:=rv (λi=>Value.bool (pV zs i)) 6) (v:=.bool true) (b:=w.heap.size) Tryz.results87 ?_ ?_ ?_ ?_ Tryz.underlying151 rfl (by rw[qG];exact Tryz.mi) ?_
   ·rfl
   ·rfl
   ·rfl
   ·exact A
   ·unfold oK;exact⟨pV zs,by rw[G.out];rfl,λ_ j _=>rfl,y.out⟩
def r9(i:Nat)(zs:List Int):List Int:=if zs.length=0 then [(i:Int)] else zs
theorem adc(a:Option Addr)(l c i n:Nat)(zs:List Int)(w:World)(h:Ints w a l c zs)(hn:n<=6) :
  Calls Tryz.prog 88 #[.slice a l c,.int .i64 (i:Nat),.int .i64 (n:Nat)] w (oK n (r9 i zs) w):=by
 have E:=h.hlen;have A:=h.hcap;have B:=h.hmax;have j:=(aB4 w.heap.size w).alloc (aB2 _) (.cells #[.bool false,.bool false,.bool false,.bool false,.bool false,.bool false] 151);have p:dK (w.alloc (.cells #[.bool false,.bool false,.bool false,.bool false,.bool false,.bool false] 151)) w.heap.size 6 (λ_=>Value.bool false):=mW w (λ_=>Value.bool false) 6 151;have q:=hid p;have F:=hid j;by_cases G:l=0
 ·subst G;have r:Hid (r9 i zs=[(i:Int)]):=hid (by unfold r9;rw[aC2 E]);have s:=(aB4 (w.heap.size+1) (w.alloc (.cells #[.bool false,.bool false,.bool false,.bool false,.bool false,.bool false] 151))).alloc (by simp) (.cells #[.int .i64 (i:Nat)] 3);have H:=hid (p.below s (by omega));have I:=hid (j.trans (s.mono (by omega)));have C:Ints ((w.alloc (.cells #[.bool false,.bool false,.bool false,.bool false,.bool false,.bool false] 151)).alloc (.cells #[.int .i64 (i:Nat)] 3)) (some ⟨w.heap.size+1,0,none⟩) 1 1 [(i:Int)]:=by
   have D:=afM (w.alloc (.cells #[.bool false,.bool false,.bool false,.bool false,.bool false,.bool false] 151)) i;rw[show (w.alloc (.cells #[.bool false,.bool false,.bool false,.bool false,.bool false,.bool false] 151)).heap.size=w.heap.size+1 by simp]at D;exact D
  have k:=hid (Ij _ 1 1 n [(i:Int)] _ C hn);clear j p s C h;rw[r.out];go_enter Tryz.func88,Tryz.ntmps88;go_wp2_with fail;refine(k.out.mono ?_);intro e J m;unfold oK at m;obtain⟨f,rfl,o,d⟩:=m;simp only[aB7]at d;have t:=hid (H.out.below d (by omega));have u:=hid (I.out.trans (d.mono (by omega)));have x:=hid o;clear o d k;go_wp2_with (refine eP rfl 151 (.tmp 6) (.tmp 15) rfl w.heap.size 6 (λi=>Value.bool (f i)) rfl rfl (t.out.there 0 6 (by omega)) Tryz.mi (Cs _) ?_);intro K g;have y:=hid (g.bD _ _ (aB2 _) u.out);have z:=g.at_.ww;clear g;go_wp2_with fail;refine dS (cs:=rv (λi=>Value.bool (f i)) 6) (v:=.bool (gm n [(i:Int)])) (b:=w.heap.size) Tryz.results88 ?_ ?_ ?_ ?_ Tryz.underlying151 rfl (by rw[qG];exact Tryz.mi) ?_
  ·rfl
  ·rfl
  ·rfl
  ·exact z
  ·unfold oK;exact⟨f,rfl,x.out,y.out⟩
 ·have r:Hid (r9 i zs=zs):=hid (by unfold r9;rw[aC1 (by omega)]);have k:=hid (Ij a l c n zs _ (h.below j) hn);have L:((l:Int)==0)=false:=aCe.2 (by omega);clear j p h;rw[r.out];go_enter Tryz.func88,Tryz.ntmps88;go_wp2_with fail;refine(k.out.mono ?_);intro e J m;unfold oK at m;obtain⟨f,rfl,o,d⟩:=m;simp only[aB7]at d;have t:=hid (q.out.below d (by omega));have u:=hid (F.out.trans (d.mono (by omega)));have x:=hid o;clear o d k;go_wp2_with (refine eP rfl 151 (.tmp 6) (.tmp 20) rfl w.heap.size 6 (λi=>Value.bool (f i)) rfl rfl (t.out.there 0 6 (by omega)) Tryz.mi (Cs _) ?_);intro K g;have y:=hid (g.bD _ _ (aB2 _) u.out);have z:=g.at_.ww;clear g;go_wp2_with fail;refine dS (cs:=rv (λi=>Value.bool (f i)) 6) (v:=.bool (gm n zs)) (b:=w.heap.size) Tryz.results88 ?_ ?_ ?_ ?_ Tryz.underlying151 rfl (by rw[qG];exact Tryz.mi) ?_
  ·rfl
  ·rfl
  ·rfl
  ·exact z
  ·unfold oK;exact⟨f,rfl,x.out,y.out⟩
