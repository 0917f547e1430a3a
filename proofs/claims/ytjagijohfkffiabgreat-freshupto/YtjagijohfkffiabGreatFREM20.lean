import Derived.Test.YtjagijohfkffiabGreatFREM19
set_option maxHeartbeats 16000000
set_option maxRecDepth 100000
set_option linter.unusedSimpArgs false
namespace Go.Proofs.YtjagijohfkffiabGreat
set_option linter.unusedVariables false
theorem NT{nd:Nd}{i x:Nat}{a b a' b' t n:Bool}(hw:(bF nd.op=true/\nd.l=0/\nd.r=0)\/(dY nd.op=true/\nd.l<i/\nd.r=0)\/(bQ nd.op=true/\nd.l<i/\nd.r<i))(hl:nd.l<i->a=a')(hr:nd.r<i->b=b'):bi nd.op x a b t n=bi nd.op x a' b' t n:=by
 rcases hw with⟨h,_,_⟩ | ⟨h,h1,_⟩ | ⟨h,h1,h2⟩
 ·simp[bF]at h;rcases h with(((h | h) | h) | h) | h <;> simp[bi,h]
 ·rw[hl h1];simp[dY]at h;rcases h with((h | h) | h) | h <;> simp[bi,h]
 ·rw[hl h1,hr h2]
def eP(S:Nat->Bool):Nat->Nat
 | 0=>0
 | k+1=>xL (eP S k) k (S k)
theorem uH(S:Nat->Bool):∀ k,k<=8->eP S k<256
 | 0,_=>by simp[eP]
 | k+1,h=>JG (uH S k (by omega)) (by omega)
theorem qK(S:Nat->Bool):∀ k,k<=8->∀ j,j<8->(eP S k).testBit j=(if j<k then S j else false)
 | 0,_,j,_=>by simp[eP]
 | k+1,h,j,hj=>by
  rw[eP,um (uH S k (by omega)) (by omega) hj,qK S k (by omega) j hj];by_cases e:j=k
  ·rw[aBU e,aBU (by omega),e]
  ·rw[aBT e];by_cases h2:j<k
   ·rw[aBU h2,aBU (by omega)]
   ·rw[aBT h2,aBT (by omega)]
theorem Dh{S T:Nat->Bool}:∀ k,(∀ j,j<k->S j=T j)->eP S k=eP T k
 | 0,_=>rfl
 | k+1,h=>by rw[eP,eP,Dh k (λj hj=>h j (by omega)),h k (by omega)]
def tb(v:Nat):Nat->Bool:=λk=>v.testBit k
theorem TJ{ns:List Nd}(hg:Good ns){x N:Nat}{S T:Nat->Bool}(hs:Step ns x S T)(hN:dO ns.length (tb N) T):∀ k,k<=ns.length->jh ns x N k=eP S k
 | 0,_=>rfl
 | k+1,h=>by
  have h8:=hg.le;have hn:=mr (ns:=ns) (k:=k) (by omega);obtain⟨h1,h2,h3⟩:=oC hg.wf hn;rw[jh,eP,TJ hg hs hN k (by omega),hs k _ hn];congr 1;have e1:N.testBit k=T k:=hN k (by omega);have e2:N.testBit (aA ns k).l=T (aA ns k).l:=hN _ h2;rw[e1,e2];exact NT (hg.wf k _ hn) (λhl=>by rw[qK S k (by omega) _ (by omega),aBU hl]) (λhr=>by rw[qK S k (by omega) _ (by omega),aBU hr])
theorem Bu{ns:List Nd}(hg:Good ns){x N:Nat}{S T:Nat->Bool}(hs:Step ns x S T)(hN:dO ns.length (tb N) T):gY ns x N=eP S ns.length:=TJ hg hs hN _ (aAU _)
theorem kU{ns:List Nd}(hg:Good ns)(S:Nat->Bool):dO ns.length (tb (eP S ns.length)) S:=λk hk=>by
 have h8:=hg.le;show (eP S ns.length).testBit k=S k;rw[qK S _ h8 k (by omega),aBU hk]
theorem TI{ns:List Nd}(hg:Good ns){x N:Nat}{S T:Nat->Bool}(hs:Step ns x S T)(hN:dO ns.length (tb N) T):dO ns.length (tb (gY ns x N)) S:=by
 rw[Bu hg hs hN];exact kU hg S
theorem Gc(ns:List Nd)(x N:Nat){j k:Nat}(hj:j<k):∀ d,k+d<=8->(jh ns x N (k+d)).testBit j=(jh ns x N k).testBit j
 | 0,_=>rfl
 | d+1,h=>by
  rw[show k+(d+1)=(k+d)+1 by omega,jh,um (uI ns x N _ (by omega)) (by omega) (by omega),aBT (by omega)];exact Gc ns x N hj d (by omega)
theorem lc{ns:List Nd}(hg:Good ns)(x N:Nat):Step ns x (tb (gY ns x N)) (tb N):=by
 intro k nd hn;have h8:=hg.le;obtain⟨h1,h2,h3⟩:=oC hg.wf hn;have hnd:aA ns k=nd:=by have:=mr (ns:=ns) h1;rw[hn]at this;exact(Option.some.inj this).symm
 have st:∀ j i,j<i->i<=ns.length->(gY ns x N).testBit j=(jh ns x N i).testBit j:=λj i hj hi=>by
  have:=Gc ns x N hj (ns.length - i) (by omega);rw[show i+(ns.length - i)=ns.length by omega]at this;exact this
 show (gY ns x N).testBit k=_;rw[st k (k+1) (by omega) (by omega),jh,um (uI ns x N k (by omega)) (by omega) (by omega),aBU rfl,hnd];exact NT (hg.wf k nd hn) (λhl=>(st _ _ hl (by omega)).symm) (λhr=>(st _ _ hr (by omega)).symm)
theorem Br{ns:List Nd}{y a:Nat}:Ew 1 ns (fD 8) y a↔a<256/\∃ l,l<8/\y=gY ns l a:=by
 unfold Ew;constructor
 ·rintro ⟨ha,st,hs,rfl⟩;have h0:a / 256=0:=by omega
  rw[h0]at hs;simp[fD]at hs;obtain⟨l,hl,rfl⟩:=hs;exact⟨by omega,l,hl,by simp[show a % 256=a by omega]⟩
 ·rintro ⟨ha,l,hl,rfl⟩;refine⟨by omega,(0,l),?_,by simp[show a % 256=a by omega]⟩;have h0:a / 256=0:=by omega
  rw[h0];simp[fD,hl]
theorem zO{nd:Nd}{k x:Nat}{S T:Nat->Bool}(hs:S k=bi nd.op x (S nd.l) (S nd.r) (T k) (T nd.l))(hw:lI nd.op=true):ic nd k S=(S k==S (iR nd)):=by
 simp[lI,lJ]at hw;rcases hw with(h | h) | h | h
 ·simp only[bi,ic,iR,h]at *;simp at *;rw[hs];cases S nd.l <;> cases T k <;> rfl
 ·simp only[bi,ic,iR,h]at *;simp at *;rw[hs];cases S nd.l <;> cases S nd.r <;> cases T k <;> rfl
 ·simp only[bi,ic,iR,h]at *;simp at *;rw[hs];cases S nd.l <;> cases T k <;> rfl
 ·simp only[bi,ic,iR,h]at *;simp at *;rw[hs];cases S nd.l <;> cases S nd.r <;> cases T k <;> rfl
theorem NV{nd:Nd}{k:Nat}{S:Nat->Bool}(hw:lI nd.op=false):ic nd k S=true:=by
 simp[lI,lJ]at hw;simp[ic,hw]
theorem qi{ns:List Nd}{c:Nat->Bool}{m:Nat}:c∈spreads (bH ns m)↔∃ k,k<m/\lI (aA ns k).op=true/\c=spread (kN k (iR (aA ns k))):=by
 simp only[spreads,bH,List.map_map,aBM,List.mem_filter,aBI,Function.comp];constructor
 ·rintro ⟨k,⟨h1,h2⟩,rfl⟩;exact⟨k,h1,h2,rfl⟩
 ·rintro ⟨k,h1,h2,rfl⟩;exact⟨k,⟨h1,h2⟩,rfl⟩
theorem yf{cs:List (Nat->Bool)}{q:Nat->Nat}(h:∀ c∈cs,∀ t,∃ t',t<=t'/\c (q t')=true):uW (KL cs) cs.length q:=λk hk t=>by
 obtain⟨t',h1,h2⟩:=h cs[k] (List.getElem_mem hk) t;exact⟨t',h1,cs[k],aAV hk,h2⟩
abbrev uX (ns:List Nd) (v:Nat):Prop:=iI (Ew 1 ns (fD 8)) (spreads (bH ns ns.length)) v
theorem Aj{ns:List Nd}(hg:Good ns){v:Nat}(h:uX ns v):chain ns [] (tb v):=by
 have h8:=hg.le;obtain⟨q,rfl,hq,hm⟩:=h;have hx:∀ t,∃ l,l<8/\q t=gY ns l (q (t+1)):=λt=>(Br.1 (hq t)).2;have aso:∀ t,q t<256:=λt=>by
  obtain⟨l,_,e⟩:=hx t;rw[e];exact vU h8 _ _
 refine⟨λt=>Classical.choose (hx t),λt=>tb (q t),λt=>(Classical.choose_spec (hx t)).1,⟨λt=>?_,λk nd hn t=>?_⟩,dO.refl _ _⟩
 ·have:=lc hg (Classical.choose (hx t)) (q (t+1));rw[<-(Classical.choose_spec (hx t)).2]at this;exact this
 ·obtain⟨h1,h2,h3⟩:=oC hg.wf hn;have hnd:aA ns k=nd:=by have:=mr (ns:=ns) h1;rw[hn]at this;exact(Option.some.inj this).symm
  cases hw:lI nd.op with
  | false=>exact⟨t,aAU _,NV hw⟩
  | true=>
   obtain⟨t',h4,h5⟩:=vB hm _ (qi.2 ⟨k,h1,by rw[hnd];exact hw,rfl⟩) t;refine⟨t',h4,?_⟩;obtain⟨l,_,e⟩:=hx t';have hst:=lc hg l (q (t'+1)) k nd hn;rw[<-e]at hst;rw[zO hst hw];have:q t' % 256=q t':=Nat.mod_eq_of_lt (aso t');simp only[spread,this,kN,hnd]at h5;exact h5
theorem Aq{ns:List Nd}(hg:Good ns){S:Nat->Bool}(h:chain ns [] S):uX ns (eP S ns.length):=by
 have h8:=hg.le;obtain⟨x,S',hl,hr,he⟩:=h;have lt:∀ t,eP (S' t) ns.length<256:=λt=>uH _ _ h8;refine⟨λt=>eP (S' t) ns.length,Dh _ he,λt=>?_,yf λc hc t=>?_⟩
 ·exact Br.2 ⟨lt _,x t,hl t,(Bu hg (hr.step t) (kU hg _)).symm⟩
 ·obtain⟨k,h1,h2,rfl⟩:=qi.1 hc;have hn:=mr (ns:=ns) h1;obtain⟨_,h3,h4⟩:=oC hg.wf hn;obtain⟨t',h5,h6⟩:=hr.kept k _ hn t;refine⟨t',h5,?_⟩;rw[zO (hr.step t' k _ hn) h2]at h6;have e1:=kU hg (S' t') k h1;have Sb:iR (aA ns k)<ns.length:=by unfold iR;split <;> omega
  have e2:=kU hg (S' t') _ Sb;have e3:eP (S' t') ns.length % 256=eP (S' t') ns.length:=Nat.mod_eq_of_lt (lt t');simp only[tb]at e1 e2;simp only[spread,kN,e3,e1,e2];exact h6
theorem NI{ns:List Nd}{x N:Nat}(hx:x<8)(h:uX ns N)(hN:N<256):uX ns (gY ns x N):=by
 obtain⟨q,h0,hq,hm⟩:=h;refine⟨λt=>if t=0 then gY ns x N else q (t - 1),rfl,λt=>?_,λk hk t=>?_⟩
 ·cases t with
  | zero=>simp;rw[h0];exact Br.2 ⟨hN,x,hx,rfl⟩
  | succ t=>simpa using hq t
 ·obtain⟨t',h1,h2⟩:=hm k hk t;exact⟨t'+1,by omega,by simpa using h2⟩
theorem Ja{ns:List Nd}(h8:ns.length<=8){v:Nat}(h:uX ns v):v<256:=by
 obtain⟨q,rfl,hq,_⟩:=h;obtain⟨_,l,_,e⟩:=Br.1 (hq 0);rw[e];exact vU h8 _ _
def back(ns:List Nd):List Nat->Nat->Nat
 | [],N=>N
 | a::u,N=>gY ns a (back ns u N)
theorem Pk(ns:List Nd)(u:List Nat)(x N:Nat):back ns (u++[x]) N=back ns u (gY ns x N):=by
 induction u with
 | nil=>rfl
 | cons a u ih=>simp[back,ih]
theorem mK{ns:List Nd}(hg:Good ns){aa:Nat->Bool}(hl:jQ ns (bH ns ns.length) aa)(u:List Nat)(hu:∀ x∈u,x<8):∀ N,(dW ns aa (bu ns aa) u N=true↔aa N=true/\(back ns u N).testBit (ns.length - 1)=true):=by
 have h8:=hg.le;generalize hn:u.length=n
 induction n generalizing u with
 | zero=>
  obtain rfl:=List.eq_nil_of_length_eq_zero hn;intro N;simp[dW,bu,back]
 | succ n ih=>
  intro N;obtain⟨u',x,rfl⟩:∃ u' x,u=u'++[x]:=⟨u.dropLast,u.getLast (by intro e;rw[e]at hn;simp at hn),(List.dropLast_concat_getLast _).symm⟩;rw[qY,Pk];have hx:=hu x (by simp);unfold stepG;rw[aBz,ih u' (λy hy=>hu y (by simp[hy])) (by simpa using hn)];constructor
  ·rintro ⟨h1,_,h2⟩;exact⟨h1,h2⟩
  ·rintro ⟨h1,h2⟩;have hN:=(hl N).1 h1;exact⟨h1,(hl _).2 (NI hx hN (Ja h8 hN)),h2⟩
theorem KP{ns:List Nd}(hg:Good ns):∀ (u:List Nat) (S:Nat->Bool),chain ns u S->∃ N,uX ns N/\dO ns.length (tb (back ns u N)) S
 | [],S,h=>⟨eP S ns.length,Aq hg h,kU hg S⟩
 | a::u,S,⟨_,T,hs,hc⟩=>by
  obtain⟨N,h1,h2⟩:=KP hg u T hc;exact⟨N,h1,TI hg hs h2⟩
theorem KQ{ns:List Nd}(hg:Good ns):∀ (u:List Nat) (hu:∀ x∈u,x<8) (N:Nat),uX ns N->chain ns u (tb (back ns u N))
 | [],_,N,h=>Aj hg h
 | a::u,hu,N,h=>⟨hu a (by simp),tb (back ns u N),lc hg a _,KQ hg u (λx hx=>hu x (by simp[hx])) N h⟩
theorem Rj{ns:List Nd}(hg:Good ns){u:List Nat}(hu:∀ x∈u,x<8)(b:Bool):May ns u b↔∃ N,uX ns N/\(back ns u N).testBit (ns.length - 1)=b:=by
 have hp:=hg.pos;rw[VO hg];constructor
 ·rintro ⟨S,h1,h2⟩;obtain⟨N,h3,h4⟩:=KP hg u S h2;exact⟨N,h3,by rw[<-h1];exact h4 _ (by omega)⟩
 ·rintro ⟨N,h1,h2⟩;exact⟨_,h2,KQ hg u hu N h1⟩
theorem Dw{ns:List Nd}(hg:Good ns){aa:Nat->Bool}(hl:jQ ns (bH ns ns.length) aa){u:List Nat}(hu:∀ x∈u,x<8):pQ ns u (qx aa (dW ns aa (bu ns aa) u)):=by
 have h8:=hg.le;have hr:=mK hg hl u hu;have mt:=Rj hg hu true;have mf:=Rj hg hu false;have ht:geq (dW ns aa (bu ns aa) u) (λ_=>false)=true↔¬ May ns u true:=by
  rw[jl,mt];constructor
  ·rintro h ⟨N,h1,h2⟩;have:=h N (Ja h8 h1);rw[(hr N).2 ⟨(hl N).2 h1,h2⟩]at this;cases this
  ·intro h N hN;cases e:dW ns aa (bu ns aa) u N with
   | false=>rfl
   | true=>
    obtain⟨h1,h2⟩:=(hr N).1 e;exact absurd ⟨N,(hl N).1 h1,h2⟩ h
 have hf:geq (dW ns aa (bu ns aa) u) aa=true↔¬ May ns u false:=by
  rw[jl,mf];constructor
  ·rintro h ⟨N,h1,h2⟩;have h3:=h N (Ja h8 h1);rw[(hl N).2 h1]at h3;rw[((hr N).1 h3).2]at h2;cases h2
  ·intro h N hN;cases e:dW ns aa (bu ns aa) u N with
   | true=>exact((hr N).1 e).1.symm
   | false=>
    cases e2:aa N with
    | false=>rfl
    | true=>
     exfalso;refine h ⟨N,(hl N).1 e2,?_⟩;cases e3:(back ns u N).testBit (ns.length - 1) with
     | false=>rfl
     | true=>rw[(hr N).2 ⟨e2,e3⟩]at e;cases e
 have some_:May ns u true\/May ns u false:=by
  obtain⟨S,hS,hR⟩:=pO hg.wf (λi=>u.getD i 0);have hL:jY (λi=>u.getD i 0):=λt=>by
   show u.getD t 0<8;rw[List.getD];cases e:u[t]? with
   | none=>simp
   | some y=>exact hu y (aBB e)
  by_cases h3:fA (λi=>i+1) (λi=>u.getD i 0) ns (ns.length - 1) 0
  ·exact aA2 ⟨_,hL,λi _=>rfl,by simpa using h3⟩
  ·exact aA3 ⟨_,hL,λi _=>rfl,by simpa using h3⟩
 unfold qx;by_cases h1:geq (dW ns aa (bu ns aa) u) aa=true
 ·rw[aBU h1];have:=hf.1 h1;exact aA3 (aA2 ⟨rfl,some_.resolve_right this,this⟩)
 ·rw[aBT h1];have hm:May ns u false:=aBp λh=>h1 (hf.2 h);by_cases h2:geq (dW ns aa (bu ns aa) u) (λ_=>false)=true
  ·rw[aBU h2];exact aA2 ⟨rfl,ht.1 h2⟩
  ·rw[aBT h2];exact aA3 (aA3 ⟨rfl,aBp λh=>h2 (ht.2 h),hm⟩)
def Gl:Nat->Nat->List Nd->Prop
 | 0,_,_=>False
 | k+1,b,ns=>(∃ op,bF op=true/\ns=[⟨op,0,0⟩])\/(∃ op ms,dY op=true/\Gl k b ms/\ns=ms++[⟨op,b+ms.length - 1,0⟩])
  \/ (∃ op ms ls,bQ op=true/\Gl k b ms/\Gl k (b+ms.length) ls/\ns=ms++ls++[⟨op,b+ms.length - 1,b+ms.length+ls.length - 1⟩])
def Seg(b:Nat)(ms:List Nd):Prop:=∃ k,Gl k b ms
theorem yU:∀ (k b:Nat) (ms:List Nd),Gl k b ms->Gl (k+1) b ms
 | 0,_,_,h=>h.elim
 | k+1,b,ms,h=>by
  rcases h with h | ⟨op,m,h1,h2,h3⟩ | ⟨op,m,l,h1,h2,h3,h4⟩
  ·exact aA2 h
  ·exact aA3 (aA2 ⟨op,m,h1,yU k b m h2,h3⟩)
  ·exact aA3 (aA3 ⟨op,m,l,h1,yU k b m h2,yU k _ l h3,h4⟩)
theorem LX{k b:Nat}{ms:List Nd}(h:Gl k b ms):∀ d,Gl (k+d) b ms
 | 0=>h
 | d+1=>yU _ _ _ (LX h d)
theorem Seg.leaf(b op:Nat)(h:bF op=true):Seg b [⟨op,0,0⟩]:=⟨1,aA2 ⟨op,h,rfl⟩⟩
theorem Seg.one(b op:Nat)(ms:List Nd)(h:dY op=true)(hs:Seg b ms):Seg b (ms++[⟨op,b+ms.length - 1,0⟩]):=by
 obtain⟨k,hk⟩:=hs;exact⟨k+1,aA3 (aA2 ⟨op,ms,h,hk,rfl⟩)⟩
theorem Seg.two(b op:Nat)(ms ls:List Nd)(h:bQ op=true)(h1:Seg b ms)(h2:Seg (b+ms.length) ls):Seg b (ms++ls++[⟨op,b+ms.length - 1,b+ms.length+ls.length - 1⟩]):=by
 obtain⟨k,hk⟩:=h1;obtain⟨j,hj⟩:=h2;refine⟨(k+j)+1,aA3 (aA3 ⟨op,ms,ls,h,LX hk j,?_,rfl⟩)⟩;rw[Nat.add_comm];exact LX hj k
theorem AR{motive:(b:Nat)->(ms:List Nd)->Seg b ms->Prop}(leaf:∀ (b op:Nat) (h:bF op=true),motive b [⟨op,0,0⟩] (Seg.leaf b op h))
  (one:∀ (b op:Nat) (ms:List Nd) (h:dY op=true) (hs:Seg b ms),motive b ms hs->motive b (ms++[⟨op,b+ms.length - 1,0⟩]) (Seg.one b op ms h hs))
  (two:∀ (b op:Nat) (ms ls:List Nd) (h:bQ op=true) (h1:Seg b ms) (h2:Seg (b+ms.length) ls),motive b ms h1->motive (b+ms.length) ls h2->motive b (ms++ls++[⟨op,b+ms.length - 1,b+ms.length+ls.length - 1⟩]) (Seg.two b op ms ls h h1 h2))
  {b:Nat} {ms:List Nd} (t:Seg b ms):motive b ms t:=by
 obtain⟨k,hk⟩:=t
 induction k generalizing b ms with
 | zero=>exact hk.elim
 | succ k ih=>
  have Oe:=hk;rcases Oe with⟨op,h,rfl⟩ | ⟨op,m,h1,h2,rfl⟩ | ⟨op,m,l,h1,h2,h3,rfl⟩
  ·exact leaf b op h
  ·exact one b op m h1 ⟨k,h2⟩ (ih h2)
  ·exact two b op m l h1 ⟨k,h2⟩ ⟨k,h3⟩ (ih h2) (ih h3)
theorem JV:∀ (k:Nat) (s:ByteArray) (a:Nat) (ns:List Nd) (a':Nat) (d9:List Nd),ps k s a ns=some (a',d9)->∃ ms,d9=ns++ms/\Seg ns.length ms
 | 0,_,_,_,_,_,h=>by simp[ps]at h
 | k+1,s,a,ns,a',d9,h=>by
  by_cases b1:bF (bt s a)=true
  ·rw[nK b1]at h;simp only[aBu,aBH]at h;obtain⟨rfl,rfl⟩:=h;exact⟨_,rfl,Seg.leaf _ _ b1⟩
  ·rw[Bool.not_eq_true]at b1;by_cases b2:dY (bt s a)=true
   ·rw[rW b2]at h;unfold ve at h;cases e:ps k s (a+1) ns with
    | none=>rw[e]at h;simp at h
    | some x=>
     obtain⟨a1,n1⟩:=x;rw[e]at h;simp only[aBu,aBH]at h;obtain⟨rfl,rfl⟩:=h;obtain⟨ms,rfl,hs⟩:=JV k s _ _ _ _ e;refine⟨_,List.append_assoc _ _ _,?_⟩;rw[aA5];exact Seg.one _ _ _ b2 hs
   ·rw[Bool.not_eq_true]at b2;by_cases b3:bt s a=40
    ·rw[oK b3]at h;unfold ps2 at h;cases e:ps k s (a+1) ns with
     | none=>rw[e]at h;simp at h
     | some x=>
      obtain⟨a1,n1⟩:=x;rw[e]at h;simp only at h;by_cases b4:bQ (bt s a1)=true
      ·rw[aBU b4]at h;cases e2:ps k s (a1+1) n1 with
       | none=>rw[e2]at h;simp at h
       | some x=>
        obtain⟨a2,n2⟩:=x;rw[e2]at h;simp only at h;by_cases b5:bt s a2=41
        ·rw[aBU b5]at h;simp only[aBu,aBH]at h;obtain⟨rfl,rfl⟩:=h;obtain⟨ms,rfl,h1⟩:=JV k s _ _ _ _ e;obtain⟨ls,rfl,h2⟩:=JV k s _ _ _ _ e2;rw[aA5]at h2;have h3:=Seg.two ns.length (bt s a1) ms ls b4 h1 h2;refine⟨_,?_,h3⟩;simp only[List.append_assoc,aA5];rw[show ns.length+(ms.length+ls.length) - 1=ns.length+ms.length+ls.length - 1 by omega]
        ·rw[aBT b5]at h;simp at h
      ·rw[aBT b4]at h;simp at h
    ·rw[GA b1 b2 b3]at h;simp at h
theorem Nw{s:ByteArray}(h:(aB s).1=0):Seg 0 (aB s).2:=by
 unfold aB at h ⊢
 split at h
 ·simp at h
 ·rename_i h1;rw[aBT h1];cases e:ps 25 s 0 [] with
  | none=>rw[e]at h;simp at h
  | some x=>
   obtain⟨a,ns⟩:=x;rw[e]at h;simp only at h ⊢
   split at h
   ·rename_i h2;rw[aBU h2]
    split at h
    ·simp at h
    ·rename_i h3;rw[aBT h3];obtain⟨ms,e2,hs⟩:=JV _ _ _ _ _ _ e;simp only[List.nil_append]at e2;subst e2;exact hs
   ·simp at h
theorem uu{b:Nat}{ms:List Nd}(h:Seg b ms):0<ms.length:=by
 induction h using AR <;> simp <;> omega
theorem yT{b:Nat}{ms:List Nd}(h:Seg b ms):∀ i nd,ms[i]?=some nd->bF nd.op=true\/(dY nd.op=true/\b<=nd.l/\nd.l<b+i)\/(bQ nd.op=true/\b<=nd.l/\nd.l<b+i/\b<=nd.r/\nd.r<b+i):=by
 induction h using AR with
 | leaf b op ho=>
  intro i nd hi;cases i with
  | zero=>simp at hi;subst hi;exact aA2 ho
  | succ i=>simp at hi
 | one b op ms ho hs ih=>
  intro i nd hi;have hp:=uu hs;by_cases e:i<ms.length
  ·rw[aA9 e]at hi;exact ih i nd hi
  ·rw[aBa (by omega)]at hi;have e2:i=ms.length:=by
    have:=(aA1.1 hi).1;simp at this;omega
   subst e2;simp at hi;subst hi;exact aA3 (aA2 ⟨ho,by simp only;omega,by simp only;omega⟩)
 | two b op ms ls ho h1 h2 ih1 VX=>
  intro i nd hi;have p1:=uu h1;have p2:=uu h2;by_cases e:i<ms.length+ls.length
  ·rw[aA9 (by rw[aA5];exact e)]at hi;by_cases e1:i<ms.length
   ·rw[aA9 e1]at hi;exact ih1 i nd hi
   ·rw[aBa (by omega)]at hi;rcases VX _ nd hi with h | ⟨h,h3,h4⟩ | ⟨h,h3,h4,h5,h6⟩
    ·exact aA2 h
    ·exact aA3 (aA2 ⟨h,by omega,by omega⟩)
    ·exact aA3 (aA3 ⟨h,by omega,by omega,by omega,by omega⟩)
  ·rw[aBa (by rw[aA5];omega)]at hi;have e2:i=ms.length+ls.length:=by
    have:=(aA1.1 hi).1;simp at this;omega
   subst e2;simp at hi;subst hi;exact aA3 (aA3 ⟨ho,by simp only;omega,by simp only;omega,by simp only;omega,by simp only;omega⟩)
def Gj(σ:Nat->Bool)(j:Nat)(nd:Nd):Prop:=(dY nd.op=true->σ nd.l=(if nd.op=33 then !σ j else σ j))/\(bQ nd.op=true->σ nd.l=σ j/\σ nd.r=σ j)
theorem xS{σ τ:Nat->Bool}{j:Nat}{nd:Nd}(h:Gj σ j nd)(hj:τ j=σ j)(hl:dY nd.op=true\/bQ nd.op=true->τ nd.l=σ nd.l)(hr:bQ nd.op=true->τ nd.r=σ nd.r):Gj τ j nd:=
 ⟨λho=>by rw[hl (aA2 ho),hj];exact h.1 ho,λho=>by rw[hl (aA3 ho),hr ho,hj];exact h.2 ho⟩
theorem NN{σ:Nat->Bool}{j:Nat}{nd:Nd}(h:bF nd.op=true):Gj σ j nd:=by
 have h1:dY nd.op=false:=by
  cases e:dY nd.op with
  | false=>rfl
  | true=>rw[jN e]at h;cases h
 have h2:bQ nd.op=false:=by
  simp only[bF,aBF,beq_iff_eq]at h;rcases h with(((h | h) | h) | h) | h <;> rw[h] <;> decide
 exact⟨λh=>(by rw[h1]at h;cases h),λh=>(by rw[h2]at h;cases h)⟩
theorem UW{b:Nat}(h:bQ b=true):dY b=false:=by
 simp only[bQ,aBF,beq_iff_eq]at h;rcases h with((h | h) | h) | h <;> rw[h] <;> decide
theorem QI{b:Nat}{ms:List Nd}(h:Seg b ms):∀ s:Bool,∃ σ:Nat->Bool,σ (b+ms.length - 1)=s/\∀ i nd,ms[i]?=some nd->Gj σ (b+i) nd:=by
 induction h using AR with
 | leaf b op ho=>
  intro s;refine⟨λ_=>s,rfl,λi nd hi=>?_⟩;cases i with
  | zero=>simp at hi;subst hi;exact NN ho
  | succ i=>simp at hi
 | one b op ms ho hs ih=>
  intro s;have hp:=uu hs;obtain⟨σ,h1,h2⟩:=ih (if op=33 then !s else s);refine⟨λj=>if j=b+ms.length then s else σ j,by simp,λi nd hi=>?_⟩;by_cases e:i<ms.length
  ·rw[aA9 e]at hi;refine xS (h2 i nd hi) (by rw[aBT (by omega)]) (λhh=>?_) (λhh=>?_)
   ·rw[aBT];rcases yT hs i nd hi with h | ⟨h,h3,h4⟩ | ⟨h,h3,h4,h5,h6⟩
    ·have l1:dY nd.op=false:=by
      cases e:dY nd.op with
      | false=>rfl
      | true=>rw[jN e]at h;cases h
     have l2:=(NN (σ:=λ_=>true) (j:=0) h);rcases hh with hh | hh
     ·rw[l1]at hh;cases hh
     ·have:bQ nd.op=false:=by
       simp only[bF,aBF,beq_iff_eq]at h;rcases h with(((h | h) | h) | h) | h <;> rw[h] <;> decide
      rw[this]at hh;cases hh
    ·omega
    ·omega
   ·rw[aBT];rcases yT hs i nd hi with h | ⟨h,h3,h4⟩ | ⟨h,h3,h4,h5,h6⟩
    ·have:bQ nd.op=false:=by
      simp only[bF,aBF,beq_iff_eq]at h;rcases h with(((h | h) | h) | h) | h <;> rw[h] <;> decide
     rw[this]at hh;cases hh
    ·rw[kQ h]at hh;cases hh
    ·omega
  ·rw[aBa (by omega)]at hi;have e2:i=ms.length:=by
    have:=(aA1.1 hi).1;simp at this;omega
   subst e2;simp at hi;subst hi;refine⟨λ_=>?_,λhh=>(by rw[kQ ho]at hh;cases hh)⟩;dsimp only;rw[aBT (by omega),aBU rfl,h1]
 | two b op ms ls ho h1 h2 ih1 VX=>
  intro s;have p1:=uu h1;have p2:=uu h2;obtain⟨σ1,a1,a2⟩:=ih1 s;obtain⟨σ2,b1,b2⟩:=VX s;have Qf:∀ {nd:Nd},bF nd.op=true->bQ nd.op=false:=λ{nd} h=>by
   simp only[bF,aBF,beq_iff_eq]at h;rcases h with(((h | h) | h) | h) | h <;> rw[h] <;> decide
  have aft:∀ {nd:Nd},bF nd.op=true->dY nd.op=false:=λ{nd} h=>by
   simp only[bF,aBF,beq_iff_eq]at h;rcases h with(((h | h) | h) | h) | h <;> rw[h] <;> decide
  refine⟨λj=>if j<b+ms.length then σ1 j else if j<b+ms.length+ls.length then σ2 j else s,?_,λi nd hi=>?_⟩
  ·simp only[aA5,aBn];rw[aBT (by omega),aBT (by omega)]
  ·by_cases e:i<ms.length+ls.length
   ·rw[aA9 (by rw[aA5];exact e)]at hi;by_cases e1:i<ms.length
    ·rw[aA9 e1]at hi;have r:=yT h1 i nd hi;refine xS (a2 i nd hi) (by rw[aBU (by omega)]) (λhh=>?_) (λhh=>?_)
     ·rcases r with h | ⟨h,h3,h4⟩ | ⟨h,h3,h4,h5,h6⟩
      ·rcases hh with hh | hh
       ·rw[aft h]at hh;cases hh
       ·rw[Qf h]at hh;cases hh
      ·rw[aBU (by omega)]
      ·rw[aBU (by omega)]
     ·rcases r with h | ⟨h,h3,h4⟩ | ⟨h,h3,h4,h5,h6⟩
      ·rw[Qf h]at hh;cases hh
      ·rw[kQ h]at hh;cases hh
      ·rw[aBU (by omega)]
    ·rw[aBa (by omega)]at hi;have r:=yT h2 _ nd hi;have key:=b2 _ nd hi;rw[show b+ms.length+(i - ms.length)=b+i by omega]at key;refine xS key (by rw[aBT (by omega),aBU (by omega)]) (λhh=>?_) (λhh=>?_)
     ·rcases r with h | ⟨h,h3,h4⟩ | ⟨h,h3,h4,h5,h6⟩
      ·rcases hh with hh | hh
       ·rw[aft h]at hh;cases hh
       ·rw[Qf h]at hh;cases hh
      ·rw[aBT (by omega),aBU (by omega)]
      ·rw[aBT (by omega),aBU (by omega)]
     ·rcases r with h | ⟨h,h3,h4⟩ | ⟨h,h3,h4,h5,h6⟩
      ·rw[Qf h]at hh;cases hh
      ·rw[kQ h]at hh;cases hh
      ·rw[aBT (by omega),aBU (by omega)]
   ·rw[aBa (by rw[aA5];omega)]at hi;have e2:i=ms.length+ls.length:=by
     have:=(aA1.1 hi).1;simp at this;omega
    subst e2;simp at hi;subst hi;refine⟨λhh=>(by rw[UW ho]at hh;cases hh),λ_=>?_⟩;dsimp only;constructor
    ·rw[aBU (show b+ms.length - 1<b+ms.length by omega),a1,aBT (show ¬ b+(ms.length+ls.length)<b+ms.length by omega),aBT (show ¬ b+(ms.length+ls.length)<b+ms.length+ls.length by omega)]
    ·rw[aBT (show ¬ b+ms.length+ls.length - 1<b+ms.length by omega),aBU (show b+ms.length+ls.length - 1<b+ms.length+ls.length by omega),b1,aBT (show ¬ b+(ms.length+ls.length)<b+ms.length by omega),aBT (show ¬ b+(ms.length+ls.length)<b+ms.length+ls.length by omega)]
theorem zi{α:Type} [DecidableEq α]:∀ (L M:List α),L.Nodup->(∀ x∈L,x∈M)->L.length<=M.length
 | [],M,_,_=>aA8 _
 | x::L,M,hd,hs=>by
  rw[List.nodup_cons]at hd;have hx:=hs x (List.mem_cons_self ..);have h1:=zi L (M.erase x) hd.2 (λy hy=>(List.mem_erase_of_ne (λe=>hd.1 (by subst e;exact hy))).2 (hs y (List.mem_cons_of_mem _ hy)));rw[List.length_erase_of_mem hx]at h1;have:0<M.length:=List.length_pos_of_mem hx;simp;omega
def tab(n:Nat)(f:Nat->Bool):List Bool:=(List.range (2 ^ n)).map f
theorem ahj(n:Nat)(f:Nat->Bool):(tab n f).length=2 ^ n:=by simp[tab]
theorem QB(n:Nat)(f:Nat->Bool):tab (n+1) f=tab n f++tab n (λb=>f (2 ^ n+b)):=by
 unfold tab;rw[show 2 ^ (n+1)=2 ^ n+2 ^ n by omega,List.range_add,aBE,List.map_map];rfl
theorem VA{n:Nat}{f g:Nat->Bool}(h:tab n f=tab n g){b:Nat}(hb:b<2 ^ n):f b=g b:=by
 have h1:(tab n f)[b]?=some (f b):=by simp[tab,hb]
 have h2:(tab n g)[b]?=some (g b):=by simp[tab,hb]
 rw[h,h2]at h1;exact(Option.some.inj h1).symm
def aiY(a b:Nat):Prop:=∀ i,a.testBit i=true->b.testBit i=true
def sU(n:Nat)(f:Nat->Bool):Prop:=∀ a b,a<2 ^ n->b<2 ^ n->aiY a b->f a=true->f b=true
theorem QP{n:Nat}{f:Nat->Bool}(h:sU (n+1) f):sU n f:=λa b ha hb hs hf=>h a b (by rw[Nat.pow_succ];omega) (by rw[Nat.pow_succ];omega) hs hf
theorem xQ{n b:Nat}(hb:b<2 ^ n)(i:Nat):(2 ^ n+b).testBit i=(if i=n then true else b.testBit i):=by
 by_cases e:i=n
 ·subst e;rw[aBU rfl,Nat.testBit_two_pow_add_eq,Nat.testBit_lt_two_pow hb];rfl
 ·rw[aBT e];by_cases h:i<n
  ·exact Nat.testBit_two_pow_add_gt h b
  ·have h1:2 ^ n+b<2 ^ i:=by
    have:2 ^ (n+1)<=2 ^ i:=Nat.pow_le_pow_right (by omega) (by omega);rw[Nat.pow_succ]at this;omega
   rw[Nat.testBit_lt_two_pow h1,Nat.testBit_lt_two_pow (aBi hb (Nat.pow_le_pow_right (by omega) (by omega)))]
theorem Np{n:Nat}{f:Nat->Bool}(h:sU (n+1) f):sU n (λb=>f (2 ^ n+b)):=λa b ha hb hs hf=>
 h (2 ^ n+a) (2 ^ n+b) (by rw[Nat.pow_succ];omega) (by rw[Nat.pow_succ];omega) (λi hi=>by
  rw[xQ ha]at hi;rw[xQ hb]
  split
  ·rfl
  ·rename_i e;rw[aBT e]at hi;exact hs i hi) hf
theorem ZM{n:Nat}{f:Nat->Bool}(h:sU (n+1) f):∀ b,b<2 ^ n->f b=true->f (2 ^ n+b)=true:=λb hb hf=>
 h b (2 ^ n+b) (by rw[Nat.pow_succ];omega) (by rw[Nat.pow_succ];omega) (λi hi=>by
  rw[xQ hb]
  split
  ·rfl
  ·exact hi) hf
def TV:Nat->List (List Bool)
 | 0=>[[]]
 | n+1=>(TV n).flatMap λl=>[false::l,true::l]
theorem Ri:∀ (l:List Bool),l∈TV l.length
 | []=>by simp[TV]
 | b::l=>by
  simp only[List.length_cons,TV,List.mem_flatMap];exact⟨l,Ri l,by cases b <;> simp⟩
def upB(l:List Bool):Bool:=(List.range 8).all λa=>(List.range 8).all λb=>!((a &&& b)==a)||(!(l.getD a false)||l.getD b false)
def leB(p q:List Bool):Bool:=(p.zip q).all λx=>!x.1||x.2
def m3:List (List Bool):=(TV 8).filter upB
def m4:List (List Bool):=m3.flatMap λp=>(m3.filter λq=>leB p q).map λq=>p++q
theorem ajm:m4.length=168:=by decide +kernel
theorem acZ{a b:Nat}(h:a &&& b=a):aiY a b:=λi hi=>by
 have:(a &&& b).testBit i=true:=by rw[h];exact hi
 rw[Nat.testBit_and,aBz]at this;exact this.2
theorem QC{n:Nat}{f:Nat->Bool}{b:Nat}(hb:b<2 ^ n):(tab n f).getD b false=f b:=by simp[tab,List.getD,hb]
theorem aad{f:Nat->Bool}(h:sU 3 f):tab 3 f∈m3:=by
 unfold m3;rw[List.mem_filter];refine⟨by have:=Ri (tab 3 f);rwa [ahj]at this,?_⟩;unfold upB;simp only[List.all_eq_true,aBI];intro a ha b hb;rw[QC (n:=3) (by simpa using ha),QC (n:=3) (by simpa using hb)];by_cases e:a &&& b=a
 ·cases hf:f a with
  | false=>simp
  | true=>simp[h a b (by simpa using ha) (by simpa using hb) (acZ e) hf]
 ·have:((a &&& b)==a)=false:=aA6.2 e;simp[this]
theorem ah8{n:Nat}{f g:Nat->Bool}(h:∀ b,b<2 ^ n->f b=true->g b=true):leB (tab n f) (tab n g)=true:=by
 unfold leB tab;rw[List.all_eq_true];intro x hx;rw[List.zip_map',aBM]at hx;obtain⟨b,hb,rfl⟩:=hx;have:=h b (by simpa using hb);dsimp only;cases hf:f b with
 | false=>rfl
 | true=>simp[this hf]
theorem ajk{f:Nat->Bool}(h:sU 4 f):tab 4 f∈m4:=by
 rw[QB];unfold m4;rw[List.mem_flatMap];refine⟨_,aad (QP h),?_⟩;rw[aBM];exact⟨_,List.mem_filter.2 ⟨aad (Np h),ah8 (ZM h)⟩,rfl⟩
def twice(M:List (List Bool)):List (List Bool):=M.flatMap λp=>M.map λq=>p++q
theorem Nb(M:List (List Bool)):(twice M).length=M.length*M.length:=by
 unfold twice;rw[List.length_flatMap];have:(M.map λp=>(M.map λq=>p++q).length)=List.replicate M.length M.length:=by
  rw[List.eq_replicate_iff];exact⟨by simp,λb hb=>by simp at hb;obtain⟨_,_,rfl⟩:=hb;rfl⟩
 rw[this];simp
theorem NH{n:Nat}{M:List (List Bool)}(hM:∀ f,sU n f->tab n f∈M){f:Nat->Bool}(h:sU (n+1) f):tab (n+1) f∈twice M:=by
 rw[QB];unfold twice;rw[List.mem_flatMap];exact⟨_,hM _ (QP h),aBM.2 ⟨_,hM _ (Np h),rfl⟩⟩
def m6:List (List Bool):=twice (twice m4)
theorem aaf:m6.length=796594176:=by
 unfold m6;rw[Nb,Nb,ajm]
theorem aac{f:Nat->Bool}(h:sU 6 f):tab 6 f∈m6:=NH (λg hg=>NH (λk hk=>ajk hk) hg) h
def pW(s a b:Bool):Prop:=if s=true then (a=true->b=true) else (b=true->a=true)
theorem Jc(s a:Bool):pW s a a:=by unfold pW;split <;> exact id
theorem ajq{s a b:Bool}(h:pW s a b)(k:pW s b a):a=b:=by
 unfold pW at h k;cases s <;> cases a <;> cases b <;> simp_all
theorem Kg{s a b a' b':Bool}(h:pW s a a')(k:pW s b b'):pW s (a||b) (a'||b'):=by
 unfold pW at *;cases s <;> cases a <;> cases b <;> cases a' <;> cases b' <;> simp_all
theorem GQ{s a b a' b':Bool}(h:pW s a a')(k:pW s b b'):pW s (a&&b) (a'&&b'):=by
 unfold pW at *;cases s <;> cases a <;> cases b <;> cases a' <;> cases b' <;> simp_all
theorem ah7{s a a':Bool}(h:pW (!s) a a'):pW s (!a) (!a'):=by
 unfold pW at *;cases s <;> cases a <;> cases a' <;> simp_all
def wU(op:Nat):Bool:=op==70||op==71||op==85||op==82||op==88
def iY:Nat->List Nd->List Nat
 | _,[]=>[]
 | i,nd::ms=>(if wU nd.op=true then [if nd.op=88 then nd.l else i] else [])++iY (i+1) ms
theorem Rh:∀ (ms:List Nd) (i j:Nat) (nd:Nd),ms[j]?=some nd->wU nd.op=true->(if nd.op=88 then nd.l else i+j)∈iY i ms
 | [],i,j,nd,h,_=>by simp at h
 | n0::ms,i,j,nd,h,ht=>by
  rw[iY,aBy];cases j with
  | zero=>
   simp at h;subst h
   left
   rw[aBU ht];simp
  | succ j=>
   right
   have:=Rh ms (i+1) j nd (by simpa using h) ht;rwa [show i+1+j=i+(j+1) by omega]at this
def xq(σ:Nat->Bool)(ns:List Nd):Prop:=∀ i nd,ns[i]?=some nd->Gj σ i nd
def LeR(ns:List Nd)(σ:Nat->Bool)(N N':Nat):Prop:=∀ k,k∈iY 0 ns->pW (σ k) (N.testBit k) (N'.testBit k)
theorem TE{ns:List Nd}(hg:Good ns){σ:Nat->Bool}(hs:xq σ ns){x N N':Nat}(hr:LeR ns σ N N'):∀ k,k<ns.length->pW (σ k) ((gY ns x N).testBit k) ((gY ns x N').testBit k):=by
 have key:∀ n k,k<n->k<ns.length->pW (σ k) ((gY ns x N).testBit k) ((gY ns x N').testBit k):=by
  intro n
  induction n with
  | zero=>intro k h;omega
  | succ n ih=>
   intro k hk ql;obtain⟨nd,hn⟩:∃ nd,ns[k]?=some nd:=⟨ns[k],aAV ql⟩;have e1:=lc hg x N k nd hn;have e2:=lc hg x N' k nd hn;simp only[tb]at e1 e2;rw[e1,e2];have sg:=hs k nd hn;have rel:=λht=>hr _ (Rh ns 0 k nd hn ht);rcases hg.wf k nd hn with⟨h,_,_⟩ | ⟨h,hl,_⟩ | ⟨h,hl,fF⟩
   ·simp only[bF,aBF,beq_iff_eq]at h;rcases h with(((h | h) | h) | h) | h <;> simp only[bi,h] <;> exact Jc _ _
   ·have s1:=sg.1 h;have i1:=ih nd.l (by omega) (by omega);rw[s1]at i1;simp only[dY,aBF,beq_iff_eq]at h;rcases h with((h | h) | h) | h
    ·rw[aBU h]at i1;simp only[bi,h];exact ah7 i1
    ·rw[aBT (by omega)]at s1;have r1:=rel (by rw[h];decide);rw[aBU h,s1]at r1;simp only[bi,h];exact r1
    ·rw[aBT (by omega)]at i1;have r1:=rel (by rw[h];decide);rw[aBT (by omega),aBo]at r1;simp only[bi,h];exact Kg i1 r1
    ·rw[aBT (by omega)]at i1;have r1:=rel (by rw[h];decide);rw[aBT (by omega),aBo]at r1;simp only[bi,h];exact GQ i1 r1
   ·obtain⟨s1,s2⟩:=sg.2 h;have i1:=ih nd.l (by omega) (by omega);have i2:=ih nd.r (by omega) (by omega);rw[s1]at i1;rw[s2]at i2;simp only[bQ,aBF,beq_iff_eq]at h;rcases h with((h | h) | h) | h
    ·simp only[bi,h];exact GQ i1 i2
    ·simp only[bi,h];exact Kg i1 i2
    ·have r1:=rel (by rw[h];decide);rw[aBT (by omega),aBo]at r1;simp only[bi,h];exact Kg i2 (GQ i1 r1)
    ·have r1:=rel (by rw[h];decide);rw[aBT (by omega),aBo]at r1;simp only[bi,h];exact GQ i2 (Kg i1 r1)
 exact λk hk=>key (k+1) k (by omega) hk
theorem VI{ns:List Nd}(hg:Good ns):∀ k∈iY 0 ns,k<ns.length:=by
 have key:∀ (ms:List Nd) (i:Nat),(∀ j nd,ms[j]?=some nd->nd.l<ns.length/\i+j<ns.length)->∀ k∈iY i ms,k<ns.length:=by
  intro ms
  induction ms with
  | nil=>intro i _ k hk;simp[iY]at hk
  | cons nd ms ih=>
   intro i h k hk;rw[iY,aBy]at hk;rcases hk with hk | hk
   ·split at hk
    ·simp at hk;obtain⟨h1,h2⟩:=h 0 nd rfl;subst hk
     split <;> omega
    ·simp at hk
   ·exact ih (i+1) (λj n hj=>by
     obtain⟨h1,h2⟩:=h (j+1) n (by simpa using hj);exact⟨h1,by omega⟩) k hk
 refine key ns 0 (λj nd hj=>?_);obtain⟨h1,h2,_⟩:=oC hg.wf hj;exact⟨h2,by omega⟩
theorem zS{ns:List Nd}(hg:Good ns){σ:Nat->Bool}(hs:xq σ ns){N N':Nat}(hr:LeR ns σ N N'):∀ (u:List Nat),u≠[]->∀ k,k<ns.length->pW (σ k) ((back ns u N).testBit k) ((back ns u N').testBit k)
 | [],h,_,_=>absurd rfl h
 | [a],_,k,hk=>TE hg hs hr k hk
 | a::b::u,_,k,hk=>TE hg hs (λj hj=>zS hg hs hr (b::u) (by simp) j (VI hg j hj)) k hk
theorem Tw(S:Nat->Bool){k:Nat}(h:k<=8):eP S k<2 ^ k:=by
 refine Nat.lt_pow_two_of_testBit _ λi hi=>?_;by_cases h8:i<8
 ·rw[qK S k h i h8,aBT (by omega)]
 ·exact Nat.testBit_lt_two_pow (aBi (uH S k h) (by rw[show (256:Nat)=2 ^ 8 by rfl];exact Nat.pow_le_pow_right (by omega) (by omega)))
section
variable {ns:List Nd} (hg:Good ns) {σ:Nat->Bool} (hs:xq σ ns)
def vw(ns:List Nd)(σ:Nat->Bool)(b:Nat):Nat:=eP (λk=>decide (k∈iY 0 ns)&&(b.testBit ((iY 0 ns).idxOf k)==σ k)) ns.length
def pj(ns:List Nd)(σ:Nat->Bool)(N:Nat):Nat:=eP (λi=>N.testBit ((iY 0 ns).getD i 0)==σ ((iY 0 ns).getD i 0)) 6
theorem Qs{ns:List Nd}(hg:Good ns)(σ:Nat->Bool)(b:Nat){k:Nat}(hk:k∈iY 0 ns):(vw ns σ b).testBit k=(b.testBit ((iY 0 ns).idxOf k)==σ k):=by
 have h8:=hg.le;have hl:=VI hg k hk;unfold vw;rw[qK _ _ h8 k (by omega),aBU hl];simp[hk]
theorem afn{ns:List Nd}(hg:Good ns)(h6:(iY 0 ns).length<=6)(σ:Nat->Bool)(N:Nat){k:Nat}(hk:k∈iY 0 ns):(vw ns σ (pj ns σ N)).testBit k=N.testBit k:=by
 have hi:=List.idxOf_lt_length_of_mem hk;rw[Qs hg σ _ hk];unfold pj;rw[qK _ 6 (by omega) _ (by omega),aBU (by omega)];have:(iY 0 ns).getD ((iY 0 ns).idxOf k) 0=k:=by
  rw[List.getD,aAV hi];simp
 rw[this];cases N.testBit k <;> cases σ k <;> rfl
def Oq(ns:List Nd)(σ:Nat->Bool)(u:List Nat):Nat->Bool:=λb=>(back ns u (vw ns σ b)).testBit (ns.length - 1)
theorem CV{ns:List Nd}(hg:Good ns){σ:Nat->Bool}(hs:xq σ ns)(ht:σ (ns.length - 1)=true)(h6:(iY 0 ns).length<=6){u:List Nat}(hu:u≠[]):sU 6 (Oq ns σ u):=by
 intro a b ha hb hsub hf;have hp:=hg.pos;have hr:LeR ns σ (vw ns σ a) (vw ns σ b):=λk hk=>by
  rw[Qs hg σ a hk,Qs hg σ b hk];have:=hsub ((iY 0 ns).idxOf k);unfold pW;cases σ k <;> cases h1:a.testBit ((iY 0 ns).idxOf k) <;> cases h2:b.testBit ((iY 0 ns).idxOf k) <;> simp_all
 have:=zS hg hs hr u hu (ns.length - 1) (by omega);rw[ht]at this;unfold pW at this;rw[aBU rfl]at this;exact this hf
theorem Sj{ns:List Nd}(hg:Good ns){σ:Nat->Bool}(hs:xq σ ns)(h6:(iY 0 ns).length<=6){u:List Nat}(hu:u≠[])(N:Nat):Oq ns σ u (pj ns σ N)=(back ns u N).testBit (ns.length - 1):=by
 have hp:=hg.pos;unfold Oq;refine ajq (s:=σ (ns.length - 1)) ?_ ?_
 ·exact zS hg hs (λk hk=>by rw[afn hg h6 σ N hk];exact Jc _ _) u hu _ (by omega)
 ·exact zS hg hs (λk hk=>by rw[afn hg h6 σ N hk];exact Jc _ _) u hu _ (by omega)
end
theorem aiq{ns:List Nd}(hg:Good ns)(ht:Seg 0 ns)(h6:(iY 0 ns).length<=6){aa:Nat->Bool}(hl:jQ ns (bH ns ns.length) aa)(us:List (List Nat))(hu:∀ u∈us,u≠[]/\∀ x∈u,x<8)
  (hd:(us.map λu=>gv (dW ns aa (bu ns aa) u)).Nodup):us.length<=796594176:=by
 obtain⟨σ,hr,Oc⟩:=QI ht true;have hs:xq σ ns:=λi nd hi=>by have:=Oc i nd hi;rwa [aBo]at this
 rw[aBo]at hr;have key:(us.map λu=>tab 6 (Oq ns σ u)).Nodup:=by
  rw[List.nodup_iff_pairwise_ne,List.pairwise_map]at hd ⊢;refine List.Pairwise.imp_of_mem ?_ hd;intro u v Hu Oa hne e;refine hne (Sq λN hN=>?_);obtain⟨a1,a2⟩:=hu u Hu;obtain⟨b1,b2⟩:=hu v Oa;rw[Bool.eq_iff_iff,mK hg hl u a2,mK hg hl v b2,<-Sj hg hs h6 a1,<-Sj hg hs h6 b1];have:pj ns σ N<2 ^ 6:=Tw _ (by omega);rw[VA e this]
 have:=zi _ m6 key (λx hx=>by
  obtain⟨u,Hu,rfl⟩:=aBM.1 hx;exact aac (CV hg hs hr h6 (hu u Hu).1))
 rw[aaf]at this;simpa using this
