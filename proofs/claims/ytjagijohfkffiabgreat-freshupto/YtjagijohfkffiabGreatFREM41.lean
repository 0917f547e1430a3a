import Derived.Test.YtjagijohfkffiabGreatFREM40
set_option maxHeartbeats 16000000
set_option maxRecDepth 100000
set_option linter.unusedSimpArgs false
namespace Go.Proofs.YtjagijohfkffiabGreat
set_option linter.unusedVariables false
def Qo(n:Nat)(ed:Nat->Nat->Bool)(st:Nat->Bool)(q:Nat->Nat):Prop:=st (q 0)=true/\∀ t,q t<n/\ed (q t) (q (t+1))=true
def pV(ns:List Nd)(n:Nat)(lt:Nat->Nat)(ed:Nat->Nat->Bool)(st:Nat->Bool):Prop:=∀ q,Qo n ed st q->fA (λi=>i+1) (λt=>lt (q t)) ns (ns.length - 1) 0
section
variable {ns:List Nd} {aa:Nat->Bool} {n:Nat} {lt:Nat->Nat} {ed:Nat->Nat->Bool} {st f:Nat->Bool} {tl:Nat->List (Nat × Nat)}
theorem XE(hg:Good ns)(hl:jQ ns (bH ns ns.length) aa)(hn:n<=6)(hlt:∀ i,i<n->lt i<8)(hA:wT lt ed n 0 tl){q:Nat->Nat}(hq:Path (Ew n ns tl) q)(hm:uW (KL (spreads (bH ns ns.length))) (spreads (bH ns ns.length)).length q) :
  (∀ t,q t / 256<n/\ed (q t / 256) (q (t+1) / 256)=true)/\aa (q 0 % 256)=true/\((q 0 % 256).testBit (ns.length - 1)=true↔fA (λi=>i+1) (λt=>lt (q t / 256)) ns (ns.length - 1) 0):=by
 have h8:=hg.le;have hpos:=hg.pos;have pt:∀ t,q t / 256<n/\ed (q t / 256) (q (t+1) / 256)=true/\q t % 256=gY ns (lt (q t / 256)) (q (t+1) % 256):=λt=>by
  obtain⟨_,i,h1,h2,h3⟩:=(YW hA hn).1 (hq t);have hb:=vU h8 (lt i) (q (t+1) % 256);have e1:q t / 256=i:=by rw[h3];omega
  have e2:q t % 256=gY ns (lt i) (q (t+1) % 256):=by rw[h3];omega
  rw[e1,e2];exact⟨h1,h2,rfl⟩
 have ank:uX ns (q 0 % 256):=by
  refine⟨λt=>q t % 256,rfl,λt=>Br.2 ⟨Nat.mod_lt _ (by omega),lt (q t / 256),hlt _ (pt t).1,(pt t).2.2⟩,yf λc hc t=>?_⟩;obtain⟨t',h1,h2⟩:=vB hm c hc t;refine⟨t',h1,?_⟩;obtain⟨k,_,_,rfl⟩:=qi.1 hc;unfold spread at h2 ⊢;rw[Nat.mod_mod];exact h2
 have row:yN ns (λt=>lt (q t / 256)) (λt=>tb (q t % 256)):=by
  refine⟨λt=>?_,λk nd hnd t=>?_⟩
  ·have:=lc hg (lt (q t / 256)) (q (t+1) % 256);rw[<-(pt t).2.2]at this;exact this
  ·obtain⟨h1,h2,h3⟩:=oC hg.wf hnd;have aj5:aA ns k=nd:=by have:=mr (ns:=ns) h1;rw[hnd]at this;exact(Option.some.inj this).symm
   cases hww:lI nd.op with
   | false=>exact⟨t,aAU _,NV hww⟩
   | true=>
    obtain⟨t',h4,h5⟩:=vB hm _ (qi.2 ⟨k,h1,by rw[aj5];exact hww,rfl⟩) t;refine⟨t',h4,?_⟩;have hst:=lc hg (lt (q t' / 256)) (q (t'+1) % 256) k nd hnd;rw[<-(pt t').2.2]at hst;rw[zO hst hww];simp only[spread,kN,aj5]at h5;exact h5
 refine⟨λt=>⟨(pt t).1,(pt t).2.1⟩,(hl _).2 ank,?_⟩;rw[<-Jp hg.wf row _ (by omega)];rfl
theorem UR{aX:Nat->Bool}{x:Nat}(h:lG st f aX x=true):st (x / 256)=true/\f x=true/\aX (x % 256)=false:=by
 unfold lG at h;simp only[aBz,Bool.not_eq_true']at h;exact⟨h.1,h.2.1,h.2.2⟩
theorem Yb(hg:Good ns)(hl:jQ ns (bH ns ns.length) aa)(hn:n<=6)(hlt:∀ i,i<n->lt i<8)(hA:wT lt ed n 0 tl)(hf:∀ x,f x=true↔iI (Ew n ns tl) (spreads (bH ns ns.length)) x)(hno:∀ x,x<n*256->lG st f (bu ns aa) x=false):pV ns n lt ed st:=by
 intro q hq;have h8:=hg.le;have hpos:=hg.pos;apply aBp;intro Jg;have hL:jY (λt=>lt (q t)):=λt=>hlt _ (hq.2 t).1;obtain⟨S,hS,hR⟩:=pO hg.wf (λt=>lt (q t));have vl:∀ t,eP (S t) ns.length<256:=λt=>uH _ _ h8;have Og:f (q 0*256+eP (S 0) ns.length)=true:=by
  rw[hf];refine⟨λt=>q t*256+eP (S t) ns.length,rfl,λt=>?_,yf λc hc t=>?_⟩
  ·have v1:=vl (t+1);have d1:(q (t+1)*256+eP (S (t+1)) ns.length) / 256=q (t+1):=by omega
   have d2:(q (t+1)*256+eP (S (t+1)) ns.length) % 256=eP (S (t+1)) ns.length:=by omega
   have Kl:=(hq.2 (t+1)).1;refine(YW hA hn).2 ⟨by show q (t+1)*256+eP (S (t+1)) ns.length<n*256;omega,q t,(hq.2 t).1,by rw[d1];exact(hq.2 t).2,?_⟩;rw[d2,Bu hg (hR.step t) (kU hg _)]
  ·obtain⟨k,h1,h2,rfl⟩:=qi.1 hc;have hnd:=mr (ns:=ns) h1;obtain⟨_,h3,h4⟩:=oC hg.wf hnd;obtain⟨t',h5,h6⟩:=hR.kept k _ hnd t;refine⟨t',h5,?_⟩;rw[zO (hR.step t' k _ hnd) h2]at h6;have e1:=kU hg (S t') k h1;have Sb:iR (aA ns k)<ns.length:=by unfold iR;split <;> omega
   have e2:=kU hg (S t') _ Sb;have v1:=vl t';have d2:(q t'*256+eP (S t') ns.length) % 256=eP (S t') ns.length:=by omega
   simp only[tb]at e1 e2;simp only[spread,kN,d2,e1,e2];exact h6
 have v0:=vl 0;have hq0:=(hq.2 0).1;have h9:=hno (q 0*256+eP (S 0) ns.length) (by omega);unfold lG at h9;rw[show (q 0*256+eP (S 0) ns.length) / 256=q 0 by omega,show (q 0*256+eP (S 0) ns.length) % 256=eP (S 0) ns.length by omega,hq.1,Og]at h9;have hb:bu ns aa (eP (S 0) ns.length)=false:=by
  unfold bu;have e1:(eP (S 0) ns.length).testBit (ns.length - 1)=S 0 (ns.length - 1):=kU hg (S 0) (ns.length - 1) (by omega);have e2:S 0 (ns.length - 1)=false:=by
   cases e:S 0 (ns.length - 1) with
   | false=>rfl
   | true=>exact absurd ((hS 0 (ns.length - 1)).1 e) Jg
  rw[e1,e2];simp
 rw[hb]at h9;simp at h9
structure qo (ns:List Nd) (n:Nat) (lt:Nat->Nat) (ed:Nat->Nat->Bool) (st:Nat->Bool) (SA SB:List Nat):Prop where
 ne:SB≠[]
 lt_:∀ p∈SA++SB,p<n
 begins:st ((SA++SB).headD 0)=true
 go:Goes (λa b=>ed a b=true) (SA++SB) (SB.headD 0)
 ai0:¬ fA (λi=>i+1) (qd (SA.map lt) (SB.map lt)) ns (ns.length - 1) 0
 len:SA.length+SB.length<=20000
theorem Su{E F:Nat->Nat->Prop}{g:Nat->Nat}(h:∀ a b,E a b->F (g a) (g b)):∀ {l:List Nat} {e:Nat},Goes E l e->Goes F (l.map g) (g e)
 | [],e,_=>trivial
 | a::l,e,⟨h1,h2⟩=>by
  refine⟨?_,Su h h2⟩;have:=h _ _ h1;cases l with
  | nil=>exact this
  | cons b l=>exact this
theorem XZ(hg:Good ns)(hl:jQ ns (bH ns ns.length) aa)(hn:n<=6)(hlt:∀ i,i<n->lt i<8)(hA:wT lt ed n 0 tl){A B:List Nat}{t:Nat}(hG:Goes (Ew n ns tl) A t)(hP:La (Ew n ns tl) (spreads (bH ns ns.length)) t B)(hw:lG st f (bu ns aa) ((A++B).headD 0)=true)(hlen:A.length+B.length<=20000)(yo:∀ p∈A++B,p<n*256) :
  qo ns n lt ed st (A.map (· / 256)) (B.map (· / 256)):=by
 have hb:0<B.length:=List.length_pos_iff.2 hP.ne;obtain⟨hq,hm⟩:=JP hG hP;obtain⟨p1,p2,p3⟩:=XE hg hl hn hlt hA hq hm;obtain⟨w1,w2,w3⟩:=UR hw;have h0:rowAt A B 0=(A++B).headD 0:=by
  unfold rowAt;cases A with
  | nil=>
   simp;cases B with
   | nil=>simp at hb
   | cons b B=>simp
  | cons a A=>simp
 have hE:∀ a b,Ew n ns tl a b->ed (a / 256) (b / 256)=true:=λa b h=>by
  obtain⟨_,i,h1,h2,h3⟩:=(YW hA hn).1 h;have dV:=vU hg.le (lt i) (b % 256);rw[h3,show (i*256+gY ns (lt i) (b % 256)) / 256=i by omega];exact h2
 have hh:B.headD 0=t:=hP.head;have Bg:(B.map (· / 256)).headD 0=t / 256:=by
  cases B with
  | nil=>simp at hb
  | cons b B=>simp at hh ⊢;rw[hh]
 refine⟨by simpa using hP.ne,λp hp=>?_,?_,?_,?_,by simpa using hlen⟩
 ·rw[<-aBE]at hp;obtain⟨x,hx,rfl⟩:=aBM.1 hp;have:=yo x hx;omega
 ·rw[<-aBE];have:((A++B).map (· / 256)).headD 0=(A++B).headD 0 / 256:=by
   cases hAB:A++B with
   | nil=>rfl
   | cons a l=>rfl
  rw[this];exact w1
 ·rw[<-aBE,Bg];exact Su (g:=(· / 256)) hE (yA (by rw[show B.headD t=t by cases B with | nil=>simp at hb | cons b B=>simpa using hh];exact hG) hP.go)
 ·have hx:qd ((A.map (· / 256)).map lt) ((B.map (· / 256)).map lt)=λi=>lt (rowAt A B i / 256):=by
   funext i;unfold qd rowAt;simp only[aBG];by_cases c:i<A.length
   ·rw[aBU c,aBU c];simp[List.getD,aAV c]
   ·rw[aBT c,aBT c];have c2:(i - A.length) % B.length<B.length:=Nat.mod_lt _ hb;simp[List.getD,aAV c2]
  rw[hx,<-p3];rw[h0];rw[h0]at p2;unfold bu at w3;rw[p2,Bool.true_and]at w3;rw[w3];simp
end
open Go.RowKit
theorem OC{E:Nat->Nat->Prop}:∀ {l:List Nat} {e:Nat},Goes E l e->∀ i,i<l.length->E (l.getD i 0) (if i+1<l.length then l.getD (i+1) 0 else e)
 | [],e,_,i,hi=>by simp at hi
 | a::l,e,⟨h1,h2⟩,0,hi=>by
  cases l with
  | nil=>simpa using h1
  | cons b l=>simpa using h1
 | a::l,e,⟨h1,h2⟩,i+1,hi=>by
  have h:=OC h2 i (by simpa using hi);simpa using h
section
variable {ns:List Nd} {n:Nat} {lt:Nat->Nat} {ed:Nat->Nat->Bool} {st:Nat->Bool} {SA SB:List Nat}
theorem ZA(h:qo ns n lt ed st SA SB)(i:Nat)(hi:i<(SA++SB).length):ed ((SA++SB).getD i 0) (if i+1<(SA++SB).length then (SA++SB).getD (i+1) 0 else SB.headD 0)=true:=OC h.go i hi
theorem ahl(h:qo ns n lt ed st SA SB)(i:Nat)(hi:i<(SA++SB).length):(SA++SB).getD i 0<n:=by
 refine h.lt_ _ ?_;rw[List.getD,aAV hi];exact List.getElem_mem _
theorem IM(h:qo ns n lt ed st SA SB):0<SB.length:=List.length_pos_iff.2 h.ne
theorem ac4(hg:Good ns)(h:qo ns n lt ed st SA SB)(hlt:∀ i,i<n->lt i<8):yu SA.length ns ((SA++SB).map lt)=false:=by
 have h8:∀ x∈SA.map lt++SB.map lt,x<8:=λx hx=>by
  rw[<-aBE]at hx;obtain⟨p,hp,rfl⟩:=aBM.1 hx;exact hlt p (h.lt_ p hp)
 have hi:=Yq (A:=SA.map lt) (B:=SB.map lt) hg (by simpa using IM h) h8;rw[aBG,<-aBE]at hi;cases e:yu SA.length ns ((SA++SB).map lt) with
 | false=>rfl
 | true=>exact absurd (hi.1 e) h.ai0
theorem ac3(h:qo ns n lt ed st SA SB):fI n ((SA++SB).map λ(p:Nat)=>(p:Int))=true:=oN.2 λz hz=>by
 obtain⟨p,hp,rfl⟩:=aBM.1 hz;have:=h.lt_ p hp;exact⟨by omega,by omega⟩
end
theorem XG{ns:List Nd}{n:Nat}{lt:Nat->Nat}{ed:Nat->Nat->Bool}{ss:List Int}{SA SB:List Nat}(h:qo ns n lt ed (tT ss) SA SB):∃ j,j<ss.length/\ss.getD j 0=(((SA++SB).getD 0 0:Nat):Int):=by
 have hb:=xH.1 h.begins;obtain⟨j,hj,e⟩:=aBC hb;refine⟨j,hj,?_⟩;rw[List.getD,aAV hj];simp only[Option.getD_some];rw[e];congr 1;cases (SA++SB) <;> rfl
section
variable (ns:List Nd) (vs:List Nat) (out:Nat->Nat) (nx:Nat->Nat->Nat) (vd:Nat)
def zm(p q:Nat):Bool:=wK ns vs p (q % vs.length)
theorem Vf{l:List Nat}(h:l.Nodup)(b:Nat):l.count b<=1:=by
 induction l with
 | nil=>simp
 | cons a l ih=>
  rw[List.nodup_cons]at h;rw[List.count_cons];by_cases e:a=b
  ·subst e;rw[List.count_eq_zero.2 h.1];simp
  ·have:=ih h.2;simp[e];exact this
theorem Zl(i:Nat):(toS ns vs i).Nodup:=by
 unfold toS qX;exact List.nodup_range.filter _
end
theorem adQ{ns:List Nd}(hg:Good ns){M:Nat}{m:Nat->Nat->Bool}(hL:gB ns M m):0<M:=by
 obtain⟨S,_,hR⟩:=pO hg.wf (λ_=>0);obtain⟨i,hi,_⟩:=hL.all (S 0) ⟨λ_=>0,S,λ_=>by show 0<8;omega,hR,dO.refl _ _⟩;omega
theorem X8(f:Nat->Bool)(n:Nat):ay f (n+1) (n+1)=ay f n n++[.bool (f n)]:=by
 unfold ay;rw[aBL,aBE];congr 1
 ·refine aBP λi hi=>?_;have:i<n:=by simpa using hi
  simp[this,show i<n+1 by omega]
 ·simp
theorem Ey(f:Nat->Bool)(n k:Nat):(ay f n k).length=n:=by simp[ay]
theorem ahH{w:World}{B K N:Nat}{v:Value}{V:Nat->Value}{kp:Nat->Nat->Bool}(hN:0<N)(h:iE w B 132 4 v K V (λq=>ay (kp q) N N)):Xn w v K N kp:=by
 rcases h.out.2 with⟨rfl,h0⟩ | ⟨g,cap,cur,rfl,hb,hh,hc,hm,_⟩
 ·exact⟨none,0,by rw[h0],by omega,λh=>by omega⟩
 ·refine⟨_,cap,rfl,hc,λ_=>⟨g,rfl,dB hh,λi hi=>?_⟩⟩;have hr:=h.row i hi;rw[Ey]at hr;obtain⟨b,c,e,_,hlt,dw⟩:=AV hr hN;refine⟨b,c,?_,dw,hlt,λq hq=>?_⟩
  ·rw[h.out.cellAt i (by omega)];simp[aBk,aBx hi,e]
  ·rw[e]at hr;rw[hr.cellAt q (by omega)];exact jM _ _ _ hq
section
variable (ns:List Nd) (vs:List Nat) (lt:Nat->Nat) (ed:Nat->Nat->Bool)
def KN(k i y:Nat):List Nat:=if jL ns (bD vs i) (lt k)=true/\ed k y=true then (toS ns vs i).map (λj=>y*vs.length+j) else []
def mX(k i Y:Nat):List Nat:=(List.range Y).flatMap (KN ns vs lt ed k i)
def rC(n q:Nat):List Nat:=mX ns vs lt ed (q / vs.length) (q % vs.length) n
def aeT(k a k':Nat):Prop:=a=lt k/\ed k k'=true
theorem zN(k i Y:Nat):mX ns vs lt ed k i (Y+1)=mX ns vs lt ed k i Y++KN ns vs lt ed k i Y:=by simp[mX,aBL]
theorem FX{k i:Nat}(n:Nat)(hi:i<vs.length):rC ns vs lt ed n (k*vs.length+i)=mX ns vs lt ed k i n:=by unfold rC;rw[JY hi,AX hi]
theorem Tt{k i y:Nat}(h:¬ (jL ns (bD vs i) (lt k)=true/\ed k y=true)):KN ns vs lt ed k i y=[]:=aBT h
theorem MM{k i y:Nat}(h:jL ns (bD vs i) (lt k)=true/\ed k y=true):KN ns vs lt ed k i y=(toS ns vs i).map (λj=>y*vs.length+j):=aBU h
theorem Pe{k i:Nat}(h:jL ns (bD vs i) (lt k)=false):∀ Y,mX ns vs lt ed k i Y=[]
 | 0=>rfl
 | Y+1=>by rw[zN,Pe h Y,Tt ns vs lt ed (λc=>by rw[h]at c;exact absurd c.1 (by simp))];rfl
theorem aiv(k i y:Nat):(KN ns vs lt ed k i y).length<=vs.length:=by
 unfold KN
 split
 ·rw[aBG];exact Gz ns vs i
 ·simp
theorem yG(k i:Nat):∀ Y,(mX ns vs lt ed k i Y).length<=Y*vs.length
 | 0=>by simp[mX]
 | Y+1=>by
  rw[zN,aA5,Nat.succ_mul];have h1:=yG k i Y;have h2:=aiv ns vs lt ed k i Y;omega
theorem abK(k i y b:Nat):(KN ns vs lt ed k i y).count b<=1:=by
 unfold KN
 split
 ·refine Vf ?_ b;rw[List.nodup_iff_pairwise_ne,List.pairwise_map];exact(List.nodup_iff_pairwise_ne.1 (Zl ns vs i)).imp λhne e=>hne (by omega)
 ·simp
theorem KJ(k i b:Nat):∀ Y,(mX ns vs lt ed k i Y).count b<=Y
 | 0=>by simp[mX]
 | Y+1=>by
  rw[zN,List.count_append];have h1:=KJ k i b Y;have h2:=abK ns vs lt ed k i Y b;omega
theorem aeS(k i b:Nat):∀ Y,b∈mX ns vs lt ed k i Y↔∃ y,y<Y/\b∈KN ns vs lt ed k i y:=λY=>by
 unfold mX;rw[List.mem_flatMap];simp
theorem WF{n:Nat}(hlt:∀ i,i<n->lt i<8):Ql ns vs n (aeT lt ed) (rC ns vs lt ed n) (zm ns vs):=by
 refine⟨λk i hk hi b=>?_,λp k i hp hk hi=>?_⟩
 ·rw[FX ns vs lt ed n hi,aeS];constructor
  ·rintro ⟨y,hy,hb⟩;by_cases c:jL ns (bD vs i) (lt k)=true/\ed k y=true
   ·rw[MM ns vs lt ed c]at hb;obtain⟨j,hj,rfl⟩:=aBM.1 hb;exact⟨lt k,y,j,hlt k hk,hy,⟨rfl,c.2⟩,qZ.1 c.1,hj,rfl⟩
   ·rw[Tt ns vs lt ed c]at hb;simp at hb
  ·rintro ⟨a,k',j,ha,Oe,⟨rfl,h2⟩,hr,hj,rfl⟩;refine⟨k',Oe,?_⟩;rw[MM ns vs lt ed ⟨qZ.2 hr,h2⟩];exact aBM.2 ⟨j,hj,rfl⟩
 ·unfold zm;rw[AX hi]
theorem aeQ{n:Nat}(hlt:∀ i,i<n->lt i<8){st:Nat->Bool}(hd:Bool) :
  (∃ k,k<n/\st k=true/\∃ x sp,jY x/\sp 0=k/\MvP n (aeT lt ed) x sp/\(fA (λi=>i+1) x ns (ns.length - 1) 0↔hd=true))↔∃ q,Qo n ed st q/\(fA (λi=>i+1) (λt=>lt (q t)) ns (ns.length - 1) 0↔hd=true):=by
 constructor
 ·rintro ⟨k,hk,hs,x,sp,hL,h0,hm,Jg⟩;have hx:x=λt=>lt (sp t):=by funext t;exact(hm t).2.1
  refine⟨sp,⟨by rw[h0];exact hs,λt=>⟨(hm t).1,(hm t).2.2⟩⟩,?_⟩;rw[<-hx];exact Jg
 ·rintro ⟨q,⟨hs,hq⟩,Jg⟩;exact⟨q 0,(hq 0).1,hs,λt=>lt (q t),q,λt=>hlt _ (hq t).1,rfl,λt=>⟨(hq t).1,rfl,(hq t).2⟩,Jg⟩
end
theorem aeR{ns:List Nd}(hg:Good ns){vs:List Nat}(hL:gB ns vs.length (bD vs)){n:Nat}{lt:Nat->Nat}{ed:Nat->Nat->Bool}{st:Nat->Bool}(hlt:∀ i,i<n->lt i<8){good:Nat->Bool}(lX:∀ x,good x=true↔∃ c,c<n*vs.length/\reach (Ed (n*vs.length) (rC ns vs lt ed n)) x c/\GN (n*vs.length) (rC ns vs lt ed n) ns.length (zm ns vs) c) :
  (∃ k,k<n/\st k=true/\∃ i,i<vs.length/\bD vs i (ns.length - 1)=false/\good (k*vs.length+i)=true)↔¬ pV ns n lt ed st:=by
 have hp:=WF ns vs lt ed hlt;have h1:(∃ k,k<n/\st k=true/\∃ i,i<vs.length/\bD vs i (ns.length - 1)=false/\good (k*vs.length+i)=true)↔∃ k,k<n/\st k=true/\∃ x sp,jY x/\sp 0=k/\MvP n (aeT lt ed) x sp/\(fA (λi=>i+1) x ns (ns.length - 1) 0↔false=true):=by
  constructor
  ·rintro ⟨k,hk,hs,h⟩;exact⟨k,hk,hs,(JX hg hL hp lX hk false).1 h⟩
  ·rintro ⟨k,hk,hs,h⟩;exact⟨k,hk,hs,(JX hg hL hp lX hk false).2 h⟩
 rw[h1,aeQ ns lt ed hlt false];constructor
 ·rintro ⟨q,hq,Jg⟩ hH;exact absurd (Jg.1 (hH q hq)) (by simp)
 ·intro h;have:∃ q,Qo n ed st q/\¬ fA (λi=>i+1) (λt=>lt (q t)) ns (ns.length - 1) 0:=aBp λc=>h λq hq=>aBp λc2=>c ⟨q,hq,c2⟩;obtain⟨q,hq,Hw⟩:=this;exact⟨q,hq,λh=>absurd h Hw,λh=>by cases h⟩
def Dm(w:World)(B:Nat)(v:Value)(L:List Nat):Prop:=w.ownsRow B 3 1 v L.length (aD L)
section
variable (s:ByteArray) (w:World)
end
