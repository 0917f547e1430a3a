import Derived.Test.YtjagijohfkffiabGreatALLM15
set_option maxHeartbeats 16000000
set_option maxRecDepth 100000
set_option linter.unusedSimpArgs false
namespace Go.Proofs.YtjagijohfkffiabGreat
set_option linter.unusedVariables false
theorem PV{nd:Nd}{i x:Nat}{a b a' b' t n:Bool}(hw:(bG nd.op=true/\nd.l=0/\nd.r=0)\/(eF nd.op=true/\nd.l<i/\nd.r=0)\/(bU nd.op=true/\nd.l<i/\nd.r<i))(hl:nd.l<i->a=a')(hr:nd.r<i->b=b'):bg nd.op x a b t n=bg nd.op x a' b' t n:=by
 rcases hw with⟨h,_,_⟩ | ⟨h,h1,_⟩ | ⟨h,h1,h2⟩
 ·simp[bG]at h;rcases h with(((h | h) | h) | h) | h <;> simp[bg,h]
 ·rw[hl h1];simp[eF]at h;rcases h with((h | h) | h) | h <;> simp[bg,h]
 ·rw[hl h1,hr h2]
def dM(S:Nat->Bool):Nat->Nat
 | 0=>0
 | k+1=>uP (dM S k) k (S k)
theorem uG(S:Nat->Bool):∀ k,k<=8->dM S k<256
 | 0,_=>by simp[dM]
 | k+1,h=>KT (uG S k (by omega)) (by omega)
theorem tX(S:Nat->Bool):∀ k,k<=8->∀ j,j<8->(dM S k).testBit j=(if j<k then S j else false)
 | 0,_,j,_=>by simp[dM]
 | k+1,h,j,hj=>by
  rw[dM,wF (uG S k (by omega)) (by omega) hj,tX S k (by omega) j hj];by_cases e:j=k
  ·rw[aC2 e,aC2 (by omega),e]
  ·rw[aC1 e];by_cases h2:j<k
   ·rw[aC2 h2,aC2 (by omega)]
   ·rw[aC1 h2,aC1 (by omega)]
theorem Ey{S T:Nat->Bool}:∀ k,(∀ j,j<k->S j=T j)->dM S k=dM T k
 | 0,_=>rfl
 | k+1,h=>by rw[dM,dM,Ey k (λj hj=>h j (by omega)),h k (by omega)]
def tb(v:Nat):Nat->Bool:=λk=>v.testBit k
theorem Vw{ns:List Nd}(hg:Good ns){x N:Nat}{S T:Nat->Bool}(hs:Step ns x S T)(hN:dU ns.length (tb N) T):∀ k,k<=ns.length->jP ns x N k=dM S k
 | 0,_=>rfl
 | k+1,h=>by
  have h8:=hg.le;have hn:=l9 (ns:=ns) (k:=k) (by omega);obtain⟨h1,h2,h3⟩:=nR hg.wf hn;rw[jP,dM,Vw hg hs hN k (by omega),hs k _ hn];congr 1;have e1:N.testBit k=T k:=hN k (by omega);have e2:N.testBit (au ns k).l=T (au ns k).l:=hN _ h2;rw[e1,e2];exact PV (hg.wf k _ hn) (λhl=>by rw[tX S k (by omega) _ (by omega),aC2 hl]) (λhr=>by rw[tX S k (by omega) _ (by omega),aC2 hr])
theorem Ah{ns:List Nd}(hg:Good ns){x N:Nat}{S T:Nat->Bool}(hs:Step ns x S T)(hN:dU ns.length (tb N) T):gF ns x N=dM S ns.length:=Vw hg hs hN _ (aB2 _)
theorem jA{ns:List Nd}(hg:Good ns)(S:Nat->Bool):dU ns.length (tb (dM S ns.length)) S:=λk hk=>by
 have h8:=hg.le;show (dM S ns.length).testBit k=S k;rw[tX S _ h8 k (by omega),aC2 hk]
theorem Vv{ns:List Nd}(hg:Good ns){x N:Nat}{S T:Nat->Bool}(hs:Step ns x S T)(hN:dU ns.length (tb N) T):dU ns.length (tb (gF ns x N)) S:=by
 rw[Ah hg hs hN];exact jA hg S
theorem Ig(ns:List Nd)(x N:Nat){j k:Nat}(hj:j<k):∀ d,k+d<=8->(jP ns x N (k+d)).testBit j=(jP ns x N k).testBit j
 | 0,_=>rfl
 | d+1,h=>by
  rw[show k+(d+1)=(k+d)+1 by omega,jP,wF (wT ns x N _ (by omega)) (by omega) (by omega),aC1 (by omega)];exact Ig ns x N hj d (by omega)
theorem kH{ns:List Nd}(hg:Good ns)(x N:Nat):Step ns x (tb (gF ns x N)) (tb N):=by
 intro k c a;have h:=hg.le;obtain⟨d,l,m⟩:=nR hg.wf a;have b:au ns k=c:=by have:=l9 (ns:=ns) d;rw[a]at this;exact(Option.some.inj this).symm
 have st:∀ j i,j<i->i<=ns.length->(gF ns x N).testBit j=(jP ns x N i).testBit j:=λj i e n=>by
  have:=Ig ns x N e (ns.length - i) (by omega);rw[show i+(ns.length - i)=ns.length by omega]at this;exact this
 show (gF ns x N).testBit k=_;rw[st k (k+1) (by omega) (by omega),jP,wF (wT ns x N k (by omega)) (by omega) (by omega),aC2 rfl,b];exact PV (hg.wf k c a) (λf=>(st _ _ f (by omega)).symm) (λg=>(st _ _ g (by omega)).symm)
theorem Ad{ns:List Nd}{y a:Nat}:Ew 1 ns (fM 8) y a↔a<256/\∃ l,l<8/\y=gF ns l a:=by
 unfold Ew;constructor
 ·rintro ⟨e,st,b,rfl⟩;have c:a / 256=0:=by omega
  rw[c]at b;simp[fM]at b;obtain⟨l,d,rfl⟩:=b;exact⟨by omega,l,d,by simp[show a % 256=a by omega]⟩
 ·rintro ⟨e,l,d,rfl⟩;refine⟨by omega,(0,l),?_,by simp[show a % 256=a by omega]⟩;have c:a / 256=0:=by omega
  rw[c];simp[fM,d]
theorem uH{nd:Nd}{k x:Nat}{S T:Nat->Bool}(hs:S k=bg nd.op x (S nd.l) (S nd.r) (T k) (T nd.l))(hw:mo nd.op=true):iq nd k S=(S k==S (iV nd)):=by
 simp[mo,lK]at hw;rcases hw with(h | h) | h | h
 ·simp only[bg,iq,iV,h]at *;simp at *;rw[hs];cases S nd.l <;> cases T k <;> rfl
 ·simp only[bg,iq,iV,h]at *;simp at *;rw[hs];cases S nd.l <;> cases S nd.r <;> cases T k <;> rfl
 ·simp only[bg,iq,iV,h]at *;simp at *;rw[hs];cases S nd.l <;> cases T k <;> rfl
 ·simp only[bg,iq,iV,h]at *;simp at *;rw[hs];cases S nd.l <;> cases S nd.r <;> cases T k <;> rfl
theorem Gg{nd:Nd}{k:Nat}{S:Nat->Bool}(hw:mo nd.op=false):iq nd k S=true:=by
 simp[mo,lK]at hw;simp[iq,hw]
theorem ma{ns:List Nd}{c:Nat->Bool}{m:Nat}:c∈spreads (aW ns m)↔∃ k,k<m/\mo (au ns k).op=true/\c=spread (kR k (iV (au ns k))):=by
 simp only[spreads,aW,List.map_map,aCU,List.mem_filter,aCQ,Function.comp];constructor
 ·rintro ⟨k,⟨a,b⟩,rfl⟩;exact⟨k,a,b,rfl⟩
 ·rintro ⟨k,a,b,rfl⟩;exact⟨k,⟨a,b⟩,rfl⟩
theorem qM{cs:List (Nat->Bool)}{q:Nat->Nat}(h:∀ c∈cs,∀ t,∃ t',t<=t'/\c (q t')=true):xq (KL cs) cs.length q:=λk hk t=>by
 obtain⟨t',h1,h2⟩:=h cs[k] (List.getElem_mem hk) t;exact⟨t',h1,cs[k],aB3 hk,h2⟩
abbrev wh (ns:List Nd) (v:Nat):Prop:=iQ (Ew 1 ns (fM 8)) (spreads (aW ns ns.length)) v
theorem BQ{ns:List Nd}(hg:Good ns){v:Nat}(h:wh ns v):chain ns [] (tb v):=by
 have n:=hg.le;obtain⟨q,rfl,o,p⟩:=h;have a:∀ t,∃ l,l<8/\q t=gF ns l (q (t+1)):=λt=>(Ad.1 (o t)).2;have f:∀ t,q t<256:=λt=>by
  obtain⟨l,_,e⟩:=a t;rw[e];exact vR n _ _
 refine⟨λt=>Classical.choose (a t),λt=>tb (q t),λt=>(Classical.choose_spec (a t)).1,⟨λt=>?_,λk g i t=>?_⟩,dU.refl _ _⟩
 ·have:=kH hg (Classical.choose (a t)) (q (t+1));rw[<-(Classical.choose_spec (a t)).2]at this;exact this
 ·obtain⟨j,s,u⟩:=nR hg.wf i;have c:au ns k=g:=by have:=l9 (ns:=ns) j;rw[i]at this;exact(Option.some.inj this).symm
  cases hw:mo g.op with
  | false=>exact⟨t,aB2 _,Gg hw⟩
  | true=>
   obtain⟨b,r,m⟩:=qN p _ (ma.2 ⟨k,j,by rw[c];exact hw,rfl⟩) t;refine⟨b,r,?_⟩;obtain⟨l,_,e⟩:=a b;have d:=kH hg l (q (b+1)) k g i;rw[<-e]at d;rw[uH d hw];have:q b % 256=q b:=Nat.mod_eq_of_lt (f b);simp only[spread,this,kR,c]at m;exact m
theorem xn{ns:List Nd}(hg:Good ns){S:Nat->Bool}(h:chain ns [] S):wh ns (dM S ns.length):=by
 have l:=hg.le;obtain⟨x,b,m,d,n⟩:=h;have lt:∀ t,dM (b t) ns.length<256:=λt=>uG _ _ l;refine⟨λt=>dM (b t) ns.length,Ey _ n,λt=>?_,qM λc o t=>?_⟩
 ·exact Ad.2 ⟨lt _,x t,m t,(Ah hg (d.step t) (jA hg _)).symm⟩
 ·obtain⟨k,f,p,rfl⟩:=ma.1 o;have e:=l9 (ns:=ns) f;obtain⟨_,u,v⟩:=nR hg.wf e;obtain⟨a,q,g⟩:=d.kept k _ e t;refine⟨a,q,?_⟩;rw[uH (d.step a k _ e) p]at g;have i:=jA hg (b a) k f;have r:iV (au ns k)<ns.length:=by unfold iV;split <;> omega
  have j:=jA hg (b a) _ r;have s:dM (b a) ns.length % 256=dM (b a) ns.length:=Nat.mod_eq_of_lt (lt a);simp only[tb]at i j;simp only[spread,kR,s,i,j];exact g
theorem PN{ns:List Nd}{x N:Nat}(hx:x<8)(h:wh ns N)(hN:N<256):wh ns (gF ns x N):=by
 obtain⟨q,a,b,c⟩:=h;refine⟨λt=>if t=0 then gF ns x N else q (t - 1),rfl,λt=>?_,λk d t=>?_⟩
 ·cases t with
  | zero=>simp;rw[a];exact Ad.2 ⟨hN,x,hx,rfl⟩
  | succ t=>simpa using b t
 ·obtain⟨e,g,f⟩:=c k d t;exact⟨e+1,by omega,by simpa using f⟩
theorem Ke{ns:List Nd}(h8:ns.length<=8){v:Nat}(h:wh ns v):v<256:=by
 obtain⟨q,rfl,a,_⟩:=h;obtain⟨_,l,_,e⟩:=Ad.1 (a 0);rw[e];exact vR h8 _ _
def back(ns:List Nd):List Nat->Nat->Nat
 | [],N=>N
 | a::u,N=>gF ns a (back ns u N)
theorem QG(ns:List Nd)(u:List Nat)(x N:Nat):back ns (u++[x]) N=back ns u (gF ns x N):=by
 induction u with
 | nil=>rfl
 | cons a u ih=>simp[back,ih]
theorem oZ{ns:List Nd}(hg:Good ns){aa:Nat->Bool}(hl:jf ns (aW ns ns.length) aa)(u:List Nat)(hu:∀ x∈u,x<8):∀ N,(dR ns aa (aL ns aa) u N=true↔aa N=true/\(back ns u N).testBit (ns.length - 1)=true):=by
 have g:=hg.le;generalize a:u.length=n
 induction n generalizing u with
 | zero=>
  obtain rfl:=List.eq_nil_of_length_eq_zero a;intro N;simp[dR,aL,back]
 | succ n ih=>
  intro N;obtain⟨c,x,rfl⟩:∃ c x,u=c++[x]:=⟨u.dropLast,u.getLast (by intro e;rw[e]at a;simp at a),(List.dropLast_concat_getLast _).symm⟩;rw[qH,QG];have h:=hu x (by simp);unfold stepG;rw[aCH,ih c (λy i=>hu y (by simp[i])) (by simpa using a)];constructor
  ·rintro ⟨b,_,d⟩;exact⟨b,d⟩
  ·rintro ⟨b,d⟩;have f:=(hl N).1 b;exact⟨b,(hl _).2 (PN h f (Ke g f)),d⟩
theorem MI{ns:List Nd}(hg:Good ns):∀ (u:List Nat) (S:Nat->Bool),chain ns u S->∃ N,wh ns N/\dU ns.length (tb (back ns u N)) S
 | [],S,h=>⟨dM S ns.length,xn hg h,jA hg S⟩
 | a::u,S,⟨_,T,hs,hc⟩=>by
  obtain⟨N,h1,h2⟩:=MI hg u T hc;exact⟨N,h1,Vv hg hs h2⟩
theorem MJ{ns:List Nd}(hg:Good ns):∀ (u:List Nat) (hu:∀ x∈u,x<8) (N:Nat),wh ns N->chain ns u (tb (back ns u N))
 | [],_,N,h=>BQ hg h
 | a::u,hu,N,h=>⟨hu a (by simp),tb (back ns u N),kH hg a _,MJ hg u (λx hx=>hu x (by simp[hx])) N h⟩
theorem Tu{ns:List Nd}(hg:Good ns){u:List Nat}(hu:∀ x∈u,x<8)(b:Bool):May ns u b↔∃ N,wh ns N/\(back ns u N).testBit (ns.length - 1)=b:=by
 have f:=hg.pos;rw[XF hg];constructor
 ·rintro ⟨S,a,c⟩;obtain⟨N,d,e⟩:=MI hg u S c;exact⟨N,d,by rw[<-a];exact e _ (by omega)⟩
 ·rintro ⟨N,a,c⟩;exact⟨_,c,MJ hg u hu N a⟩
theorem pM{ns:List Nd}(hg:Good ns){aa:Nat->Bool}(hl:jf ns (aW ns ns.length) aa){u:List Nat}(hu:∀ x∈u,x<8):jC ns u (rE aa (dR ns aa (aL ns aa) u)):=by
 have g:=hg.le;have d:=oZ hg hl u hu;have m:=Tu hg hu true;have n:=Tu hg hu false;have j:geq (dR ns aa (aL ns aa) u) (λ_=>false)=true↔¬ May ns u true:=by
  rw[jR,m];constructor
  ·rintro h ⟨N,a,b⟩;have:=h N (Ke g a);rw[(d N).2 ⟨(hl N).2 a,b⟩]at this;cases this
  ·intro h N o;cases e:dR ns aa (aL ns aa) u N with
   | false=>rfl
   | true=>
    obtain⟨a,b⟩:=(d N).1 e;exact absurd ⟨N,(hl N).1 a,b⟩ h
 have k:geq (dR ns aa (aL ns aa) u) aa=true↔¬ May ns u false:=by
  rw[jR,n];constructor
  ·rintro h ⟨N,a,b⟩;have f:=h N (Ke g a);rw[(hl N).2 a]at f;rw[((d N).1 f).2]at b;cases b
  ·intro h N o;cases e:dR ns aa (aL ns aa) u N with
   | true=>exact((d N).1 e).1.symm
   | false=>
    cases e2:aa N with
    | false=>rfl
    | true=>
     exfalso;refine h ⟨N,(hl N).1 e2,?_⟩;cases e3:(back ns u N).testBit (ns.length - 1) with
     | false=>rfl
     | true=>rw[(d N).2 ⟨e2,e3⟩]at e;cases e
 have c:May ns u true\/May ns u false:=by
  obtain⟨S,q,r⟩:=pq hg.wf (λi=>u.getD i 0);have l:fu (λi=>u.getD i 0):=λt=>by
   show u.getD t 0<8;rw[List.getD];cases e:u[t]? with
   | none=>simp
   | some y=>exact hu y (aCJ e)
  by_cases f:d9 (λi=>i+1) (λi=>u.getD i 0) ns (ns.length - 1) 0
  ·exact aCa ⟨_,l,λi _=>rfl,by simpa using f⟩
  ·exact aCb ⟨_,l,λi _=>rfl,by simpa using f⟩
 unfold rE;by_cases a:geq (dR ns aa (aL ns aa) u) aa=true
 ·rw[aC2 a];have:=k.1 a;exact aCb (aCa ⟨rfl,c.resolve_right this,this⟩)
 ·rw[aC1 a];have p:May ns u false:=aCx λh=>a (k.2 h);by_cases b:geq (dR ns aa (aL ns aa) u) (λ_=>false)=true
  ·rw[aC2 b];exact aCa ⟨rfl,j.1 b⟩
  ·rw[aC1 b];exact aCb (aCb ⟨rfl,aCx λh=>b (j.2 h),p⟩)
open Go.RowKit
theorem Lx{w:World}{B gn m DW:Nat}{ns:List Nd}(h:w.ownsRow B 109 3 (.slice (some ⟨gn,0,none⟩) m DW) m (flat ns))(hl:ns.length=m):JG w gn ns:=
 ⟨(h.lt _ rfl).2,λi hi=>(h.cellAt (i*3) (by omega)).trans (flat_get ns i (by omega)).1,λi hi=>(h.cellAt (i*3+1) (by omega)).trans (flat_get ns i (by omega)).2.1,λi hi=>(h.cellAt (i*3+2) (by omega)).trans (flat_get ns i (by omega)).2.2⟩
section
variable (s:ByteArray) (a1:Option Addr) (l1 c1:Nat) (z1:List Int) (w:World)
theorem afL(hm:s.size<=maxLen)(h:(af s).1≠0):Calls Tryz.prog 53 #[.string s,.slice a1 l1 c1] w (oC s z1 w):=by
 have E:Hid (lD s z1=(af s).1):=hid (by unfold lD;rw[aC1 h]);have C:=kU s w hm;unfold lQ at C;unfold oC;rw[E.out];generalize af s=p at *;have k:((p.1:Int) !=0)=true:=by rw[bne_iff_ne];omega
 go_enter Tryz.func53,Tryz.ntmps53;go_wp2_with fail;refine C.mono ?_;rintro e c ⟨d,cap,rfl,_,a⟩;go_wp2_with fail
 go_ret2
 exact⟨0,rfl,λb=>absurd b h,λ_=>rfl,a⟩
theorem acd(hm:s.size<=maxLen)(h:(af s).1=0)(h1:Ints w a1 l1 c1 z1):Calls Tryz.prog 53 #[.string s,.slice a1 l1 c1] w (oC s z1 w):=by
 have E:Hid (lD s z1=if 40<z1.length then 5 else if dh z1=true then 0 else 6):=hid (by unfold lD;rw[aC2 h]);have C:=kU s w hm;unfold lQ at C;have G:=hid (iM h);have m1:=h1.hmax;have m3:=h1.hcap;have H:=h1.hlen;have f:=λW (b:Below w.heap.size w W)=>jB a1 l1 c1 z1 W (h1.below b);unfold oC;rw[E.out];generalize af s=p at *;obtain⟨V,ns⟩:=p;dsimp only at *;subst h;rw[H];by_cases o:40<l1
 ·rw[aC2 o];have I:(40:Int)<(l1:Int):=by omega
  go_enter Tryz.func53,Tryz.ntmps53;go_wp2_with fail;refine C.mono ?_;rintro e q ⟨r,cap,rfl,_,c⟩;go_wp2_with fail
  go_ret2
  exact⟨0,rfl,λh1=>(by cases h1),λ_=>rfl,c⟩
 rw[aC1 o];have I:¬ (40:Int)<(l1:Int):=by omega
 cases hal:dh z1 with
 | false=>
  rw[hal]at f;rw[aC1 (by simp)];clear hal;go_enter Tryz.func53,Tryz.ntmps53;go_wp2_with fail;refine C.mono ?_;rintro e q ⟨r,cap,rfl,_,c⟩;go_wp2_with fail;refine(f _ c).mono ?_;rintro e J ⟨rfl,rfl⟩;go_wp2_with fail
  go_ret2
  exact⟨0,rfl,λh1=>(by cases h1),λ_=>rfl,c⟩
 | true=>
  rw[hal]at f;rw[aC2 rfl];have t:=hid hal;have K:=hid h1;clear hal h1;have g:=G.out.pos;obtain⟨k,a⟩:∃ k,ns.length=k+1:=⟨ns.length - 1,by omega⟩;have u:=hid a;rw[a]at C;clear a g;obtain⟨X,l,L⟩:=Tryz.Ta;have M:=hid Tryz.zN;clear l L;go_enter Tryz.func53,Tryz.ntmps53;go_wp2_with fail;refine C.mono ?_;rintro e q ⟨r,cap,rfl,own,c⟩;obtain⟨N,rfl,_,Y,_⟩:=sG own (by omega);have v:=hid (Lx own u.out);clear C own;go_wp2_with fail;refine(f _ c).mono ?_;rintro e J ⟨rfl,rfl⟩;clear f;go_wp2_with fail;refine(DY N k cap ns _ v.out G.out u.out).mono ?_;rintro e d ⟨O,i,rfl,x,_,P,y⟩;have Q:=hid x;have m:=hid (c.trans (y.mono c.size));have z:w.heap.size<=d.heap.size:=m.out.size;clear x y v c;have A:(d.alloc (.cells Tryz.zeroCells63 63)).there d.heap.size 0 2561:=by
   have:=mW d (dL (λ_=>0) (.slice none 0 0) (λ_=>false) (λ_=>false)) 2561 63;rw[<-M.out]at this;exact this.there 0 2561 (by omega)
  have B:=hid A;clear A;go_wp2_with (refine eP rfl 63 (.tmp 8) (.tmp 24) rfl d.heap.size 2561 (dL (oo ns) O i (aL ns i)) rfl rfl B.out Tryz.um (wN _ _ _ P) ?_);intro R n;have D:=hid (IW n.at_);have j:=hid (n.bD _ _ z (m.out.alloc z (.cells Tryz.zeroCells63 63)));clear n B m;go_wp2_with fail;refine(ZH d.heap.size ns i (aL ns i) a1 l1 c1 z1 R G.out.le D.out (K.out.below j.out) t.out).mono ?_;rintro e Z ⟨rfl,F⟩;have S:=hid (j.out.trans (F.mono j.out.size));have T:=hid (pM G.out Q.out (abM t.out));clear F j D;go_wp2_with fail
  go_ret2
  exact⟨_,rfl,λ_=>T.out,λU=>absurd rfl U,S.out⟩
theorem ace(hm:s.size<=maxLen)(h1:Ints w a1 l1 c1 z1):Calls Tryz.prog 53 #[.string s,.slice a1 l1 c1] w (oC s z1 w):=by
 by_cases h:(af s).1=0
 ·exact acd s a1 l1 c1 z1 w hm h h1
 ·exact afL s a1 l1 c1 z1 w hm h
end
end Go.Proofs.YtjagijohfkffiabGreat
namespace Go.Proofs.YtjagijohfkffiabGreat.judges
open Go.ChangeShapes Go.WideShapes Go.ChangeAt Go.RowKit
open Go.ChangeMaps (open_string shut_string)
set_option linter.unusedVariables false
theorem ZT(s:ByteArray)(a1:Option Addr)(l1 c1:Nat)(z1:List Int)(w:World)(hm:s.size<=maxLen)(h1:Ints w a1 l1 c1 z1) :
  Calls Tryz.prog 25 #[.string s,.slice a1 l1 c1] w λe w'=>e=.returned (.bool true)/\Below w.heap.size w w':=by
 have d:=ace s a1 l1 c1 z1 w hm h1;have f:=λW (b:Below w.heap.size w W)=>Zo s a1 l1 c1 z1 W hm (h1.below b);unfold oC at d f;generalize lD s z1=er at *;go_enter Tryz.func25,Tryz.ntmps25;go_wp2_with fail;refine d.mono ?_;rintro e n ⟨l,rfl,g,h,a⟩;go_wp2_with fail;refine(f _ a).mono ?_;rintro e o ⟨m,rfl,i,j,k⟩;obtain rfl:l=m:=by
  by_cases c:er=0
  ·exact lZ (g c) (i c)
  ·rw[h c,j c]
 have B:=hid (a.trans (k.mono a.size));clear d f a k g i h j;go_wp2;go_ret;exact⟨rfl,B.out⟩
end Go.Proofs.YtjagijohfkffiabGreat.judges
namespace Go.Proofs.YtjagijohfkffiabGreat
def lS(nx:Nat->Nat->Nat):Nat->List Nat->Nat
 | i,[]=>i
 | i,a::u=>lS nx (nx i a) u
theorem DD(nx:Nat->Nat->Nat)(i:Nat)(u v:List Nat):lS nx i (u++v)=lS nx (lS nx i u) v:=by
 induction u generalizing i with
 | nil=>rfl
 | cons a u ih=>exact ih _
def pJ(u:List Nat):Prop:=∀ x∈u,x<8
def met(nx:Nat->Nat->Nat):Nat->Nat
 | 0=>1
 | p+1=>max (met nx p) (nx (p / 8) (p % 8)+1)
def jQ(n:Nat)(nx:Nat->Nat->Nat):Prop:=(∀ p,p<8*n->p / 8<met nx p/\nx (p / 8) (p % 8)<=met nx p)/\met nx (8*n)=n
def jr(out:Nat->Nat)(nx:Nat->Nat->Nat)(out':Nat->Nat)(nx':Nat->Nat->Nat)(i j:Nat):Prop:=∀ w,pJ w->out (lS nx i w)=out' (lS nx' j w)
theorem AX{out out':Nat->Nat}{nx nx':Nat->Nat->Nat}{i j a:Nat}(h:jr out nx out' nx' i j)(ha:a<8):jr out nx out' nx' (nx i a) (nx' j a):=λw hw=>h (a::w) (λx hx=>by
 rcases List.mem_cons.1 hx with rfl | hx
 ·exact ha
 ·exact hw x hx)
theorem ut{out out':Nat->Nat}{nx nx':Nat->Nat->Nat}{i j:Nat}(h:jr out nx out' nx' i j):jr out' nx' out nx j i:=λw hw=>(h w hw).symm
theorem rG{o1 o2 o3:Nat->Nat}{n1 n2 n3:Nat->Nat->Nat}{i j k:Nat}(h:jr o1 n1 o2 n2 i j)(h':jr o2 n2 o3 n3 j k):jr o1 n1 o3 n3 i k:=λw hw=>(h w hw).trans (h' w hw)
def Apart(n:Nat)(out:Nat->Nat)(nx:Nat->Nat->Nat):Prop:=∀ i j,i<n->j<n->jr out nx out nx i j->i=j
theorem tQ(nx:Nat->Nat->Nat){p q:Nat}(h:p<=q):met nx p<=met nx q:=by
 obtain⟨d,rfl⟩:∃ d,q=p+d:=⟨q - p,by omega⟩;clear h
 induction d with
 | zero=>exact aB2 _
 | succ d ih=>rw[<-Nat.add_assoc];simp only[met];omega
theorem ajF(nx:Nat->Nat->Nat)(p:Nat):0<met nx p:=by
 have:=tQ nx (aCg p);simp only[met]at this;omega
theorem Ze{n n':Nat}{out out':Nat->Nat}{nx nx':Nat->Nat->Nat}(h:jQ n nx)(h':jQ n' nx')(ha:Apart n out nx)(ha':Apart n' out' nx')(h0:jr out nx out' nx' 0 0) :
  ∀ p,p<=8*n->p<=8*n'->met nx p=met nx' p/\(∀ k,k<met nx p->jr out nx out' nx' k k)/\∀ q,q<p->nx (q / 8) (q % 8)=nx' (q / 8) (q % 8):=by
 intro p
 induction p with
 | zero=>
  intro _ _;refine⟨rfl,λk f=>?_,λq i=>by omega⟩;simp only[met]at f;have:k=0:=by omega
  subst this;exact h0
 | succ p ih=>
  intro u j;obtain⟨l,d,m⟩:=ih (by omega) (by omega);obtain⟨o,v⟩:=h.1 p (by omega);obtain⟨w,x⟩:=h'.1 p (by omega);have m1:=tQ nx (show p<=8*n by omega);have r:=tQ nx' (show p<=8*n' by omega);have m3:=tQ nx (show p+1<=8*n by omega);have m4:=tQ nx' (show p+1<=8*n' by omega);rw[h.2]at m1 m3;rw[h'.2]at r m4;have e:=AX (d (p / 8) o) (Nat.mod_lt p (by omega:0<8));simp only[met]at m3 m4;generalize g:nx (p / 8) (p % 8)=t at *;generalize b:nx' (p / 8) (p % 8)=t' at *;have a:t=t':=by
   by_cases c1:t<met nx p
   ·exact ha' t t' (by omega) (by omega) (rG (ut (d t c1)) e)
   ·by_cases c2:t'<met nx' p
    ·have s:=d t' (by omega);exact ha t t' (by omega) (by omega) (rG e (ut s))
    ·omega
  refine⟨?_,?_,?_⟩
  ·simp only[met,g,b];rw[l,a]
  ·intro k f;simp only[met,g]at f;by_cases c:k<met nx p
   ·exact d k c
   ·have:k=t:=by omega
    subst this;rw[<-a]at e;exact e
  ·intro q i;by_cases c:q=p
   ·subst c;rw[g,b,a]
   ·exact m q (by omega)
theorem Sr{n n':Nat}{out out':Nat->Nat}{nx nx':Nat->Nat->Nat}(h:jQ n nx)(h':jQ n' nx')(ha:Apart n out nx)(ha':Apart n' out' nx')(h0:jr out nx out' nx' 0 0) :
  n=n'/\(∀ i,i<n->out i=out' i)/\∀ i a,i<n->a<8->nx i a=nx' i a:=by
 have b:=Ze h h' ha ha' h0;have g:n=n':=by
  rcases Nat.lt_trichotomy n n' with c | c | c
  ·obtain⟨d,_,_⟩:=b (8*n) (aB2 _) (by omega);have:=(h'.1 (8*n) (by omega)).1;rw[h.2]at d;rw[<-d]at this;omega
  ·exact c
  ·obtain⟨d,_,_⟩:=b (8*n') (by omega) (aB2 _);have:=(h.1 (8*n') (by omega)).1;rw[h'.2]at d;rw[d]at this;omega
 subst g;obtain⟨d,e,j⟩:=b (8*n) (aB2 _) (aB2 _);rw[h.2]at e;refine⟨rfl,λi f=>e i f [] (λx k=>by simp at k),λi a f ha=>?_⟩;have:=j (8*i+a) (by omega);rw[show (8*i+a) / 8=i by omega,show (8*i+a) % 8=a by omega]at this;exact this
set_option linter.unusedVariables false
def bH(kd:Nat->Nat):Nat->Nat
 | 0=>0
 | m+1=>max (bH kd m) (kd m+1)
def Fo(kd:Nat->Nat)(K:Nat):Prop:=∀ i,i<K->kd i<=bH kd i
theorem cnt_mono(kd:Nat->Nat){m m':Nat}(h:m<=m'):bH kd m<=bH kd m':=by
 obtain⟨d,rfl⟩:∃ d,m'=m+d:=⟨m' - m,by omega⟩;clear h
 induction d with
 | zero=>exact aB2 _
 | succ d ih=>rw[<-Nat.add_assoc];simp only[bH];omega
theorem cnt_lt(kd:Nat->Nat){j m:Nat}(h:j<m):kd j<bH kd m:=by
 have:=cnt_mono kd (show j+1<=m by omega);simp only[bH]at this;omega
theorem xL{kd:Nat->Nat}{K:Nat}(h:Fo kd K):∀ m,m<=K->∀ c,c<bH kd m->∃ j,j<m/\kd j=c
 | 0,_,c,hc=>by simp[bH]at hc
 | m+1,hm,c,hc=>by
  by_cases e:c<bH kd m
  ·obtain⟨j,h1,h2⟩:=xL h m (by omega) c e;exact⟨j,by omega,h2⟩
  ·have:=h m (by omega);simp only[bH]at hc;exact⟨m,by omega,by omega⟩
theorem adm{kd:Nat->Nat}{K:Nat}(h:Fo kd K):∀ m,m<=K->bH kd m<=m
 | 0,_=>aB2 _
 | m+1,hm=>by
  have h1:=adm h m (by omega);have h2:=h m (by omega);simp only[bH];omega
theorem ac6{kd iE:Nat->Nat}{K:Nat}(h:Fo kd K)(h':Fo iE K)(hr:∀ i j,i<K->j<K->iE i=iE j->kd i=kd j){m:Nat}(hm:m<K):bH kd (m+1)+bH iE m<=bH iE (m+1)+bH kd m:=by
 have a:=h m hm;have b:=h' m hm;simp only[bH];by_cases e:kd m<bH kd m
 ·omega
 ·by_cases c:iE m<bH iE m
  ·obtain⟨j,d,f⟩:=xL h' m (by omega) _ c;have:=hr j m (by omega) hm f;have:=cnt_lt kd d;omega
  ·omega
theorem I6{kd iE:Nat->Nat}{K:Nat}(h:Fo kd K)(h':Fo iE K)(hr:∀ i j,i<K->j<K->iE i=iE j->kd i=kd j)(m:Nat):∀ d,m+d<=K->bH kd (m+d)+bH iE m<=bH iE (m+d)+bH kd m
 | 0,_=>by simp;omega
 | d+1,hd=>by
  have h1:=I6 h h' hr m d (by omega);have h2:=ac6 h h' hr (m:=m+d) (by omega);rw[show m+d+1=m+(d+1) by omega]at h2;omega
theorem agr{kd iE:Nat->Nat}{K:Nat}(h:Fo kd K)(h':Fo iE K)(hr:∀ i j,i<K->j<K->iE i=iE j->kd i=kd j):bH kd K<=bH iE K:=by
 have:=I6 h h' hr 0 K (by omega);simp only[bH,aCw]at this;omega
theorem ac7{kd iE:Nat->Nat}{K:Nat}(h:Fo kd K)(h':Fo iE K)(hr:∀ i j,i<K->j<K->iE i=iE j->kd i=kd j)(he:bH iE K=bH kd K):∀ i,i<K->iE i=kd i:=by
 have g:∀ m,m<=K->bH iE m=bH kd m:=λm l=>by
  have d:=I6 h h' hr 0 m (by omega);have e:=I6 h h' hr m (K - m) (by omega);rw[show m+(K - m)=K by omega]at e;simp only[bH,aCw]at d;omega
 intro i
 induction i using Nat.strongRecOn with
 | _ i ih=>
  intro f;have n:=g i (by omega);have k:=g (i+1) (by omega);have a:=h i f;have b:=h' i f;simp only[bH]at k;by_cases c:iE i<bH iE i
  ·obtain⟨j,d,e⟩:=xL h' i (by omega) _ c;have o:=hr j i (by omega) f e;have p:=ih j d (by omega);omega
  ·omega
section
variable {K:Nat} {out out':Nat->Nat} {nx nx':Nat->Nat->Nat} {kd:Nat->Nat}
structure QN (K:Nat) (out:Nat->Nat) (nx:Nat->Nat->Nat) (kd:Nat->Nat) (out':Nat->Nat) (nx':Nat->Nat->Nat):Prop where
 out:∀ i,i<K->out' (kd i)=out i
 nx:∀ i a,i<K->a<8->nx' (kd i) a=kd (nx i a)
theorem XV(h:QN K out nx kd out' nx')(hc:∀ i a,i<K->a<8->nx i a<K):∀ (w:List Nat) (i:Nat),i<K->pJ w->lS nx i w<K/\lS nx' (kd i) w=kd (lS nx i w)
 | [],i,hi,_=>⟨hi,rfl⟩
 | a::w,i,hi,hw=>by
  have ha:=hw a (List.mem_cons_self ..);have:=XV h hc w (nx i a) (hc i a hi ha) (λx hx=>hw x (List.mem_cons_of_mem _ hx));simp only[lS];rw[h.nx i a hi ha];exact this
theorem Kl(h:QN K out nx kd out' nx')(hc:∀ i a,i<K->a<8->nx i a<K){i:Nat}(hi:i<K):jr out nx out' nx' i (kd i):=λw hw=>by
 obtain⟨h1,h2⟩:=XV h hc w i hi hw;rw[h2,h.out _ h1]
theorem acw(h:QN K out nx kd out' nx')(hc:∀ i a,i<K->a<8->nx i a<K)(hf:Fo kd K)(hl:∀ i j,i<K->j<K->jr out nx out nx i j->kd i=kd j):Apart (bH kd K) out' nx':=by
 intro c d k b e;obtain⟨i,f,rfl⟩:=xL hf K (aB2 _) c k;obtain⟨j,g,rfl⟩:=xL hf K (aB2 _) d b;exact hl i j f g (rG (Kl h hc f) (rG e (ut (Kl h hc g))))
theorem ajG(hn:jQ K nx)(h:QN K out nx kd out' nx')(hc:∀ i a,i<K->a<8->nx i a<K){r i a:Nat}(hr:r<i)(hi:i<K)(ha:a<8)(hk:kd r=kd i):bH kd (met nx (8*i+a+1))=bH kd (met nx (8*i+a)):=by
 have f:nx r a<met nx (8*i+a):=by
  have:=tQ nx (show 8*r+a+1<=8*i+a by omega);simp only[met]at this;rw[show (8*r+a) / 8=r by omega,show (8*r+a) % 8=a by omega]at this;omega
 have g:kd (nx i a)=kd (nx r a):=by rw[<-h.nx i a hi ha,<-h.nx r a (by omega) ha,hk]
 have k:=cnt_lt kd f;obtain⟨l,j⟩:=hn.1 (8*i+a) (by omega);have b:(8*i+a) / 8=i:=by omega
 have d:(8*i+a) % 8=a:=by omega
 rw[b,d]at j;simp only[met,b,d];by_cases c:nx i a<met nx (8*i+a)
 ·rw[Nat.max_eq_left (by omega)]
 ·have e:nx i a=met nx (8*i+a):=by omega
  rw[Nat.max_eq_right (by omega),e];have m:kd (met nx (8*i+a))=kd (nx r a):=by rw[<-e];exact g
  simp only[bH];omega
theorem Ka(hn:jQ K nx)(h:QN K out nx kd out' nx')(hc:∀ i a,i<K->a<8->nx i a<K){i:Nat}:∀ d,i+d<=K->(∀ j,i<=j->j<i+d->∃ r,r<j/\kd r=kd j)->bH kd (met nx (8*(i+d)))=bH kd (met nx (8*i))
 | 0,_,_=>rfl
 | d+1,hd,hj=>by
  rw[<-Ka hn h hc d (by omega) (λj h1 h2=>hj j h1 (by omega))];obtain⟨r,h1,h2⟩:=hj (i+d) (by omega) (by omega);have key:∀ a,a<=8->bH kd (met nx (8*(i+d)+a))=bH kd (met nx (8*(i+d))):=by
   intro a
   induction a with
   | zero=>intro _;rfl
   | succ a ih=>
    intro b;rw[<-ih (by omega),<-ajG hn h hc h1 (by omega) (show a<8 by omega) h2];rfl
  have:=key 8 (aB2 _);rwa [show 8*(i+d)+8=8*(i+(d+1)) by omega]at this
theorem Lj(hf:Fo kd K){c:Nat}(hc:c<bH kd K):∃ r,r<K/\kd r=c/\bH kd r=c:=by
 have:∀ m,m<=K->c<bH kd m->∃ r,r<m/\kd r=c/\bH kd r=c:=by
  intro m
  induction m with
  | zero=>intro _ h;simp[bH]at h
  | succ m ih=>
   intro b h;by_cases e:c<bH kd m
   ·obtain⟨r,d,a⟩:=ih (by omega) e;exact⟨r,by omega,a⟩
   ·have:=hf m (by omega);simp only[bH]at h;exact⟨m,by omega,by omega,by omega⟩
 exact this K (aB2 _) hc
theorem SE(hn:jQ K nx)(h:QN K out nx kd out' nx')(hc:∀ i a,i<K->a<8->nx i a<K)(hf:Fo kd K):∀ c,c<bH kd K->∀ r,r<K->kd r=c->bH kd r=c->∀ a,a<=8->met nx' (8*c+a)=bH kd (met nx (8*r+a)):=by
 intro c
 induction c with
 | zero=>
  intro t r m n u a;have v:r=0:=by
   rcases Nat.eq_zero_or_pos r with h | h
   ·exact h
   ·have:=cnt_lt kd h;omega
  subst v
  induction a with
  | zero=>
   intro _;show 1=bH kd (met nx 0);simp only[met,bH];omega
  | succ a d=>
   intro w;have d:=d (by omega);have f:(8*0+a) / 8=0:=by omega
   have g:(8*0+a) % 8=a:=by omega
   have k:=h.nx 0 a m (by omega);rw[n]at k;obtain⟨s,l⟩:=hn.1 (8*0+a) (by omega);rw[f,g]at l;show max (met nx' (8*0+a)) (nx' ((8*0+a) / 8) ((8*0+a) % 8)+1)=bH kd (max (met nx (8*0+a)) (nx ((8*0+a) / 8) ((8*0+a) % 8)+1));rw[f,g,d,k];by_cases o:nx 0 a<met nx (8*0+a)
   ·have:=cnt_lt kd o;rw[Nat.max_eq_left (by omega),Nat.max_eq_left (by omega)]
   ·have p:nx 0 a=met nx (8*0+a):=by omega
    rw[Nat.max_eq_right (show met nx (8*0+a)<=nx 0 a+1 by omega),p];rfl
 | succ c ihc=>
  intro x r m n u a
  induction a with
  | zero=>
   intro _;obtain⟨b,q,y,z⟩:=Lj hf (show c<bH kd K by omega);have A:b<r:=by
    rcases Nat.lt_or_ge b r with h | h
    ·exact h
    ·have B:=cnt_mono kd h;omega
   have e:=ihc (by omega) b q y z 8 (aB2 _);rw[show 8*(c+1)+0=8*c+8 by omega,e,show 8*b+8=8*(b+1) by omega];have:=Ka hn h hc (i:=b+1) (r - (b+1)) (by omega) (λj B s=>by
    have l:=cnt_mono kd (show j+1<=r by omega);have E:=cnt_lt kd (show j<j+1 by omega);exact xL hf j (by omega) _ (by
     have:=cnt_lt kd (show b<j by omega);omega))
   rw[show b+1+(r - (b+1))=r by omega]at this;rw[<-this];rfl
  | succ a d=>
   intro w;have d:=d (by omega);have f:(8*r+a) / 8=r:=by omega
   have g:(8*r+a) % 8=a:=by omega
   have p:(8*(c+1)+a) / 8=c+1:=by omega
   have C:(8*(c+1)+a) % 8=a:=by omega
   have k:=h.nx r a m (by omega);rw[n]at k;obtain⟨s,l⟩:=hn.1 (8*r+a) (by omega);rw[f,g]at l;show max (met nx' (8*(c+1)+a)) (nx' ((8*(c+1)+a) / 8) ((8*(c+1)+a) % 8)+1)=bH kd (max (met nx (8*r+a)) (nx ((8*r+a) / 8) ((8*r+a) % 8)+1));rw[f,g,p,C,d,k];by_cases o:nx r a<met nx (8*r+a)
   ·have:=cnt_lt kd o;rw[Nat.max_eq_left (by omega),Nat.max_eq_left (by omega)]
   ·have D:nx r a=met nx (8*r+a):=by omega
    rw[Nat.max_eq_right (show met nx (8*r+a)<=nx r a+1 by omega),D];rfl
theorem Rc(hK:0<K)(hn:jQ K nx)(h:QN K out nx kd out' nx')(hc:∀ i a,i<K->a<8->nx i a<K)(hf:Fo kd K):jQ (bH kd K) nx':=by
 refine⟨λp v=>?_,?_⟩
 ·obtain⟨r,b,d,f⟩:=Lj hf (show p / 8<bH kd K by omega);have e:=SE hn h hc hf (p / 8) (by omega) r b d f (p % 8) (by omega);rw[show 8*(p / 8)+p % 8=p by omega]at e;have l:(8*r+p % 8) / 8=r:=by omega
  have q:(8*r+p % 8) % 8=p % 8:=by omega
  obtain⟨g,s⟩:=hn.1 (8*r+p % 8) (by omega);rw[l]at g;rw[l,q]at s;have k:=cnt_lt kd g;have m:=h.nx r (p % 8) b (by omega);rw[d]at m k;rw[e,m];refine⟨k,?_⟩;by_cases t:nx r (p % 8)<met nx (8*r+p % 8)
  ·exact Nat.le_of_lt (cnt_lt kd t)
  ·have u:nx r (p % 8)=met nx (8*r+p % 8):=by omega
   rw[<-u];exact hf _ (hc r _ b (by omega))
 ·have n:0<bH kd K:=Nat.lt_of_le_of_lt (aCg _) (cnt_lt kd hK);obtain⟨c,o⟩:∃ c,bH kd K=c+1:=⟨bH kd K - 1,by omega⟩;obtain⟨r,b,d,f⟩:=Lj hf (show c<bH kd K by omega);have e:=SE hn h hc hf c (by omega) r b d f 8 (aB2 _);have:=Ka hn h hc (i:=r+1) (K - (r+1)) (by omega) (λj w g=>by
   have k:=cnt_lt kd (show j<K by omega);exact xL hf j (by omega) _ (by
    have:=cnt_lt kd (show r<j by omega);omega))
  rw[show r+1+(K - (r+1))=K by omega,hn.2]at this;rw[o,show 8*(c+1)=8*c+8 by omega,e,show 8*r+8=8*(r+1) by omega,<-this,o]
end
/-! ### Rounds -/
def Rfn(K:Nat)(out:Nat->Nat)(nx:Nat->Nat->Nat)(kd iE:Nat->Nat):Prop:=∀ i j,i<K->j<K->(iE i=iE j↔out i=out j/\∀ a,a<8->kd (nx i a)=kd (nx j a))
theorem afe{K:Nat}{out:Nat->Nat}{nx:Nat->Nat->Nat}{kd iE afK:Nat->Nat}(hc:∀ i a,i<K->a<8->nx i a<K)(h:Rfn K out nx kd iE)(h':Rfn K out nx iE afK)(hf:∀ i j,i<K->j<K->iE i=iE j->kd i=kd j):∀ i j,i<K->j<K->afK i=afK j->iE i=iE j:=λi j hi hj e=>by
 obtain⟨h1,h2⟩:=(h' i j hi hj).1 e;exact(h i j hi hj).2 ⟨h1,λa ha=>hf _ _ (hc i a hi ha) (hc j a hj ha) (h2 a ha)⟩
theorem Sw{K:Nat}{out:Nat->Nat}{nx:Nat->Nat->Nat}{kd iE:Nat->Nat}(hc:∀ i a,i<K->a<8->nx i a<K)(h:Rfn K out nx kd iE)(hl:∀ i j,i<K->j<K->jr out nx out nx i j->kd i=kd j):∀ i j,i<K->j<K->jr out nx out nx i j->iE i=iE j:=λi j hi hj hk=>
 (h i j hi hj).2 ⟨hk [] (λx hx=>by simp at hx),λa ha=>hl _ _ (hc i a hi ha) (hc j a hj ha) (AX hk ha)⟩
open Go.RowKit
structure xR (w:World) (B T:Nat) (v:Value) (gs:List (Nat->Bool)):Prop where
 c:w.cell? ⟨T,0,none⟩=some v
 f:w.frozen? ⟨T,0,none⟩=false
 own:w.ownsRow B 61 256 v gs.length (qz gs)
 ne:v.ownBlock≠some T
theorem xR.lt{w:World}{B T:Nat}{v:Value}{gs:List (Nat->Bool)}(h:xR w B T v gs):T<w.heap.size:=World.block_lt_of_cell? w ⟨T,0,none⟩ h.c
theorem xR.below{w w':World}{B T:Nat}{v:Value}{gs:List (Nat->Bool)}(h:xR w B T v gs)(hb:Below w.heap.size w w'):xR w' B T v gs:=
 ⟨(hb.cell (p:=⟨T,0,none⟩) h.lt).trans h.c,(hb.frozen (p:=⟨T,0,none⟩) h.lt).trans h.f,ai h.own hb,h.ne⟩
structure wX (w w':World) (T:Nat) (row:Option Nat):Prop where
 os:w'.os=w.os
 tape:w'.tape=w.tape
 output:w'.output=w.output
 size:w.heap.size<=w'.heap.size
 block:∀ k,k<w.heap.size->k≠T->some k≠row->w'.heap[k]?=w.heap[k]?
theorem wX.of_below{w w':World}{T:Nat}{row:Option Nat}(h:Below w.heap.size w w'):wX w w' T row:=⟨h.os,h.tape,h.output,h.size,λk hk _ _=>h.block k hk⟩
theorem wX.cell{w w':World}{T:Nat}{row:Option Nat}(h:wX w w' T row){p:Addr}(hp:p.block<w.heap.size)(h1:p.block≠T)(h2:some p.block≠row):w'.cell? p=w.cell? p:=aCn (h.block _ hp h1 h2)
theorem wX.frozen{w w':World}{T:Nat}{row:Option Nat}(h:wX w w' T row){p:Addr}(hp:p.block<w.heap.size)(h1:p.block≠T)(h2:some p.block≠row):w'.frozen? p=w.frozen? p:=aCo (h.block _ hp h1 h2)
theorem Cr{ops:Array Oper}{o:Oper}{a:Act}{w:World}{K:Act->World->Prop}{Q:Exit->Act->World->Prop}{E:Prop}(nZ:o.guard=none)(x:Operand)(ho:o.op=.buildSlice 59 1 #[(0,x)])
  (g:Nat->Bool) (hx:a.eval x=.agg (gv g).toArray) (h:K (a.put o.dst (.slice (some ⟨w.heap.size,0,none⟩) 1 1)) (w.alloc (.cells (gv g).toArray 61))) :
  if Region.wanted o (yielded ops a.tmps)=true then Oper.wp Tryz.prog o a w K Q else E:=by
 have b:Region.wanted o (yielded ops a.tmps)=true:=by simp[Region.wanted,nZ]
 rw[aC2 b];unfold Oper.wp execOp;have:=xw g w;simp only[ho,hx,List.map_toArray,List.map_cons,List.map_nil,Sem.run_bind,this,Result.andThen_ok,Sem.run_pure];exact h
def adL(w w':World)(B T:Nat)(v:Value)(gs:List (Nat->Bool))(g:Nat->Bool)(j:Nat)(v':Value)(Yf:List (Nat->Bool)):Prop:=
 xR w' B T v' Yf/\wX w w' T v.ownBlock/\((Yf=gs/\v'=v/\∃ g0,gs[j]?=some g0/\geq g0 g=true)\/(j=gs.length/\Yf=gs++[g]/\(v'.ownBlock=v.ownBlock\/∃ q,v'.ownBlock=some q/\w.heap.size<=q)/\∀ g0∈gs,geq g0 g=false))
theorem ZJ(B T:Nat)(v:Value)(gs:List (Nat->Bool))(g:Nat->Bool)(w:World)(hm:xR w B T v gs)(hB:B<=w.heap.size)(hlen:gs.length<=8589934592) :
  Calls Tryz.prog 70 #[.pointer (some ⟨T,0,none⟩),.agg (gv g).toArray] w λe w'=>∃ j v' Yf,e=.returned (.int .i64 (j:Nat))/\adL w w' B T v gs g j v' Yf:=by
 have hT:=hm.lt;have E:=hid hm;have Fz:=hid hm.own;obtain⟨A,C,rfl⟩:=ak hm.own;have V9:=hid (H9 hm.own);have c0:=hm.c;have EQ:=λg h W=>pO 9998 g h W;have BX:=hid (wQ w g 61);have iJ:=hid ((aB4 w.heap.size w).alloc (aB2 _) (.cells (gv g).toArray 61));have F:∀ k,(Value.slice A gs.length C).ownBlock=some k->k<w.heap.size:=λk h=>(hm.own.lt k h).2;have P:=hid F;clear hm F;obtain⟨i0,M,aT,aP,aO⟩:=info_parts Tryz.Gm;have Q:Hid ((Value.agg (gv λ_=>false).toArray).cells.size=256):=hid (by show (gv λ_=>false).toArray.size=256;rw[List.size_toArray,mG]);generalize Bf:gs.length=n at *;have y:=hid Bf;clear Bf;go_enter Tryz.func70,Tryz.ntmps70;go_wp2_with fail;clear c0
 go_loopw [12] (λi R=>∃ k:Nat,k<=n/\i=.int .i64 k/\Hid (∀ i d,i<k->gs[i]?=some d->geq d g=false)/\Hid (bE R w.heap.size 0 g)/\w.heap.size<R.heap.size/\Hid (Below w.heap.size w R)) (λi _=>n - (intOf i).toNat)
 case atStart=>exact⟨0,aCg _,rfl,hid (λi d h=>by omega),BX,by simp,iJ⟩
 case round=>
  obtain⟨k,hk,rfl,HA,U,hsz,s⟩:=hrel;rename World=>W0;by_cases G:k<n
  ·obtain⟨kZ,mQ,e2,CO⟩:=V9.out;cases e2;obtain⟨gc,e3,V,Us⟩:=CO (by rw[y.out];omega);subst e3;obtain⟨d,m⟩:∃ d,gs[k]?=some d:=⟨gs[k]'(by rw[y.out];exact G),aB3 (by rw[y.out];exact G)⟩;have GK:=hid ((Us k d m).below s.out V);have H:=hid m;clear Us m;rw[y.out]at *;go_wp2_with (first | (refine aN rfl (.tmp 15) rfl gc (k*256) d rfl GK.out ?_) | (refine bM rfl (.tmp 6) (.tmp 16) rfl W0.heap.size 0 d rfl rfl (ig W0).there ?_))
   intro p I;have A6:=hid I.at_;have X:=hid (I.z8 (U.out.alloc (.cells Tryz.zeroCells61 61)) (aCa (by omega)));have Y:=hid (I.bD _ _ (by omega) (s.out.alloc (by omega) (.cells Tryz.zeroCells61 61)));have kX:p.heap.size=W0.heap.size+1:=by rw[I.size];simp
   clear I GK;have J:=λW=>pO 9998 d g W;clear EQ;cases eq:geq d g with
   | true=>
    rw[eq]at J;go_wp2_with (first | (refine aN rfl (.tmp 6) rfl W0.heap.size 0 d rfl A6.out ?_) | (refine aN rfl (.tmp 3) rfl w.heap.size 0 g rfl X.out ?_))
    go_ret;exact⟨k,_,gs,rfl,E.out.below Y.out,wX.of_below Y.out,aCa ⟨rfl,rfl,d,H.out,eq⟩⟩
   | false=>
    have rZ:Hid (∀ i N,i<k+1->gs[i]?=some N->geq N g=false):=hid (λi N h1 L=>by
     by_cases e:i=k
     ·subst e;rw[H.out]at L;cases L;exact eq
     ·exact HA.out i N (by omega) L)
    rw[eq]at J;clear eq;go_wp2_with (first | (refine aN rfl (.tmp 6) rfl W0.heap.size 0 d rfl A6.out ?_) | (refine aN rfl (.tmp 3) rfl w.heap.size 0 g rfl X.out ?_))
    go_roundw
    case rel=>exact⟨k+1,by omega,by go_num,rZ,X,by omega,Y⟩
    case measure=>simp[intOf];omega
  ·obtain rfl:k=n:=by omega
   have QX:=hid (E.out.below s.out);have OW:=hid (ai Fz.out s.out);have cT:=QX.out.c;have fT:=QX.out.f;have CR:T<W0.heap.size:=by omega
   go_wp2_with fail;refine wp_region_held_drew (S:=λW=>bE W w.heap.size 0 g) (by kernel_rfl) U.out.drew (λr=>?_);refine aCc (i:=0) (oi:={ dst:=some 22,op:=Op.move (.tmp 0),type:=_,pos:=_,after:=_,guard:=none }) (v:=(Value.pointer (some ⟨T,0,none⟩))) rfl (by kernel_rfl) (by kernel_rfl) (by kernel_rfl) (λ_ _ _ h=>h) (aCa ⟨by rfl,by intro w' o;(try dsimp only at o);go_simp⟩) (by assumption) ?_
   simp only[Act.put,aB1,aB5,aB6];refine aCc (i:=1) (oi:={ dst:=some 23,op:=Op.move (.tmp 0),type:=_,pos:=_,after:=_,guard:=none }) (v:=(Value.pointer (some ⟨T,0,none⟩))) rfl (by kernel_rfl) (by kernel_rfl) (by kernel_rfl) (λ_ _ _ h=>h) (aCa ⟨by rfl,by intro w' o;(try dsimp only at o);go_simp⟩) (by assumption) ?_
   simp only[Act.put,aB1,aB5,aB6];refine aCc (i:=2) (oi:={ dst:=some 24,op:=Op.nilCheck (.tmp 23),type:=_,pos:=_,after:=_,guard:=none }) (v:=(Value.pointer (some ⟨T,0,none⟩))) rfl (by kernel_rfl) (by kernel_rfl) (by kernel_rfl) (λ_ _ _ h=>h) (aCa ⟨by rfl,by intro w' o;(try dsimp only at o);go_simp⟩) (by assumption) ?_
   simp only[Act.put,aB1,aB5,aB6];refine aCc (i:=3) (oi:={ dst:=some 25,op:=Op.fieldAddr _ (.tmp 24) 0,type:=_,pos:=_,after:=_,guard:=none }) (v:=(Value.pointer (some ⟨T,0,none⟩))) rfl (by kernel_rfl) (by kernel_rfl) (by kernel_rfl) (λ_ _ _ h=>h) (aCa ⟨by rfl,by intro w' o;(try dsimp only at o);go_simp⟩) (by assumption) ?_
   simp only[Act.put,aB1,aB5,aB6];refine aCc (i:=5) (oi:={ dst:=some 27,op:=Op.load 61 (.tmp 3),type:=_,pos:=_,after:=_,guard:=none }) (v:=(Value.agg (gv g).toArray)) rfl (by kernel_rfl) (by kernel_rfl) (by kernel_rfl) (λ_ _ _ h=>h) (yieldsIf_load_mid (by rfl) 61 (.tmp 3) rfl w.heap.size 0 rfl (gv g) _ (λW h=>h.ww) Tryz.jM rfl (Tryz.qh g)) (by assumption) ?_;simp only[Act.put,aB1,aB5,aB6];refine aCk (rs:=[4,6]) (by kernel_rfl) (by simp) ?_;refine aCf rfl (λK l=>?_) (aCf rfl (λK l=>?_) aCj)
   focus
    go_simp
    refine l.out _ _ (by assumption) (λr=>?_);clear l K;refine aCk (rs:=[6]) (by kernel_rfl) (by simp) ?_;refine aCf rfl (λK l=>?_) aCj;refine Cr (by rfl) (.tmp 27) (by rfl) g (by rfl) ?_;refine l.out _ _ ((by exact r:bE _ w.heap.size 0 g).alloc _) (λr=>?_)
   rotate_left
   focus
    refine Cr (by rfl) (.tmp 27) (by rfl) g (by rfl) ?_;refine l.out _ _ ((by exact r:bE _ w.heap.size 0 g).alloc _) (λr=>?_);clear l K;refine aCk (rs:=[4]) (by kernel_rfl) (by simp) ?_;refine aCf rfl (λK l=>?_) aCj
    go_simp
    refine l.out _ _ (by assumption) (λr=>?_)
   all_goals
    clear l K;refine aCk (rs:=[7]) (by kernel_rfl) (by simp) ?_;refine aCf rfl (λK l=>?_) aCj;refine aCV _ (by rfl) (.tmp 26) (.tmp 28) 59 (by rfl) B 61 i0 (.agg (gv λ_=>false).toArray) 256 256 Tryz.underlying59 M aT aP aO Q.out (by decide) _ k (qz gs) (by rfl) ((OW.out.alloc _).drew) ⟨W0.heap.size,0,none⟩ 1 1 (gv g) (by rfl) (by rw[mG]) (UL W0 g _) (Mh g) (by decide) (by unfold maxLen;omega) (by omega) (by simp;omega) (W0.heap.size+1) (by simp) ?_;intro t D p u b z iy;have x:∀ q,some q=(Value.slice A k C).ownBlock->q<w.heap.size:=λq h=>P.out q h.symm;have h0:(W0.alloc (.cells (gv g).toArray 61)).cell? ⟨T,0,none⟩=some (.slice A k C):=by rw[aCB _ _ _ CR];exact cT
    have c2:p.cell? ⟨T,0,none⟩=some (.slice A k C):=b.cell h0 (λe=>E.out.ne e.symm);have f2:p.frozen? ⟨T,0,none⟩=false:=by
     have O:=b.block T (by show T<(W0.alloc (.cells (gv g).toArray 61)).heap.size;rw[aB7];omega) (λe=>E.out.ne e.symm);rw[aCo (a:=⟨T,0,none⟩) O];show (W0.alloc (.cells (gv g).toArray 61)).frozen? ⟨T,0,none⟩=false;rw[aCS _ _ _ CR];exact fT
    have Z:bE p w.heap.size 0 g:=by
     have O:=b.block w.heap.size (by show w.heap.size<(W0.alloc (.cells (gv g).toArray 61)).heap.size;rw[aB7];omega) (λe=>Nat.lt_irrefl _ (x _ e));have h3:=(U.out.alloc (.cells (gv g).toArray 61)).drew;exact⟨λj hj=>(aCn (a:=⟨w.heap.size,0+j,none⟩) O).trans (h3.c j hj),λj hj=>(aCo (a:=⟨w.heap.size,0+j,none⟩) O).trans (h3.f j hj)⟩
    have Eg:t≠T:=by
     rcases z with h | h
     ·exact λe=>E.out.ne (by rw[<-e];exact h)
     ·omega
    have EX:Hid (xR (p.setCell ⟨T,0,none⟩ (.slice (some ⟨t,0,none⟩) (k+1) D)) B T (.slice (some ⟨t,0,none⟩) (k+1) D) (gs++[g])):=hid ⟨aCz _ _ _ c2,by rw[aCm];exact f2,by
     rw[aCd,y.out,Mr];refine u.kept (row:=some T) ⟨rfl,rfl,rfl,by rw[aCr];exact aB2 _,λq hq hne=>aCD _ _ _ _ (λe=>hne (by rw[e]))⟩ (aCb (by simpa [Value.ownBlock] using Eg)),by simpa [Value.ownBlock] using Eg⟩
    have afV:W0.heap.size+1<=p.heap.size:=by
     have h4:(W0.drew.alloc (.cells (gv g).toArray 61)).heap.size<=p.heap.size:=b.size;rw[aB7]at h4;exact h4
    have NF:Hid (wX w (p.setCell ⟨T,0,none⟩ (.slice (some ⟨t,0,none⟩) (k+1) D)) T (Value.slice A k C).ownBlock):=hid ⟨b.os.trans s.out.os,b.tape.trans s.out.tape,b.output.trans s.out.output,by rw[aCr];omega,λq hq h1 L=>by
     rw[aCD _ _ _ _ h1,b.block q (by show q<(W0.alloc (.cells (gv g).toArray 61)).heap.size;rw[aB7];omega) L];show (W0.alloc (.cells (gv g).toArray 61)).heap[q]?=_;rw[aCt _ _ _ (by omega)];exact s.out.block q hq⟩
    have OB:Hid ((Value.slice (some ⟨t,0,none⟩) (k+1) D).ownBlock=(Value.slice A k C).ownBlock\/∃ q,(Value.slice (some ⟨t,0,none⟩) (k+1) D).ownBlock=some q/\w.heap.size<=q):=hid (by
     rcases z with h | h
     ·exact aCa (by rw[h];rfl)
     ·exact aCb ⟨t,rfl,by omega⟩)
    refine l.out _ _ Z (λr=>?_);have wE:=hid (Z.other ⟨T,0,none⟩ (.slice (some ⟨t,0,none⟩) (k+1) D) (aCa (by show T≠w.heap.size;omega)));clear l K u b z Z x;simp only[Act.put,aB1];refine aCc (i:=8) (oi:={ dst:=some 30,op:=Op.nilCheck (.tmp 22),type:=_,pos:=_,after:=_,guard:=none }) (v:=(Value.pointer (some ⟨T,0,none⟩))) rfl (by kernel_rfl) (by kernel_rfl) (by kernel_rfl) (λ_ _ _ h=>h) (aCa ⟨by rfl,by intro w' o;(try dsimp only at o);go_simp⟩) (by assumption) ?_
    simp only[Act.put];refine aCc (i:=9) (oi:={ dst:=some 31,op:=Op.fieldAddr _ (.tmp 30) 0,type:=_,pos:=_,after:=_,guard:=none }) (v:=(Value.pointer (some ⟨T,0,none⟩))) rfl (by kernel_rfl) (by kernel_rfl) (by kernel_rfl) (λ_ _ _ h=>h) (aCa ⟨by rfl,by intro w' o;(try dsimp only at o);go_simp⟩) (by assumption) ?_
    simp only[Act.put];refine aCk (rs:=[10]) (by kernel_rfl) (by simp) ?_;refine aCf rfl (λK l=>?_) aCj
    go_simp
    refine l.out _ _ wE.out (λr=>?_);clear l K;refine aC0 (by kernel_rfl) ?_ _;have e1:=EX.out.c;clear r c2 f2 cT fT;go_wp2_with fail;go_ret;exact⟨k,_,_,rfl,EX.out,NF.out,aCb ⟨y.out.symm,rfl,OB.out,λd m=>by
     obtain⟨i,M,e⟩:=aCK m;exact HA.out i d (by rw[<-y.out];exact M) (by rw[aB3 M,e])⟩⟩
def Im:Nat->Nat->List Nd->Prop
 | 0,_,_=>False
 | k+1,b,ns=>(∃ op,bG op=true/\ns=[⟨op,0,0⟩])\/(∃ op ms,eF op=true/\Im k b ms/\ns=ms++[⟨op,b+ms.length - 1,0⟩])
  \/ (∃ op ms ls,bU op=true/\Im k b ms/\Im k (b+ms.length) ls/\ns=ms++ls++[⟨op,b+ms.length - 1,b+ms.length+ls.length - 1⟩])
def Seg(b:Nat)(ms:List Nd):Prop:=∃ k,Im k b ms
theorem Aw:∀ (k b:Nat) (ms:List Nd),Im k b ms->Im (k+1) b ms
 | 0,_,_,h=>h.elim
 | k+1,b,ms,h=>by
  rcases h with h | ⟨op,m,h1,h2,h3⟩ | ⟨op,m,l,h1,h2,h3,h4⟩
  ·exact aCa h
  ·exact aCb (aCa ⟨op,m,h1,Aw k b m h2,h3⟩)
  ·exact aCb (aCb ⟨op,m,l,h1,Aw k b m h2,Aw k _ l h3,h4⟩)
theorem NC{k b:Nat}{ms:List Nd}(h:Im k b ms):∀ d,Im (k+d) b ms
 | 0=>h
 | d+1=>Aw _ _ _ (NC h d)
theorem Seg.leaf(b op:Nat)(h:bG op=true):Seg b [⟨op,0,0⟩]:=⟨1,aCa ⟨op,h,rfl⟩⟩
theorem Seg.one(b op:Nat)(ms:List Nd)(h:eF op=true)(hs:Seg b ms):Seg b (ms++[⟨op,b+ms.length - 1,0⟩]):=by
 obtain⟨k,a⟩:=hs;exact⟨k+1,aCb (aCa ⟨op,ms,h,a,rfl⟩)⟩
theorem Seg.two(b op:Nat)(ms ls:List Nd)(h:bU op=true)(h1:Seg b ms)(h2:Seg (b+ms.length) ls):Seg b (ms++ls++[⟨op,b+ms.length - 1,b+ms.length+ls.length - 1⟩]):=by
 obtain⟨k,a⟩:=h1;obtain⟨j,c⟩:=h2;refine⟨(k+j)+1,aCb (aCb ⟨op,ms,ls,h,NC a j,?_,rfl⟩)⟩;rw[Nat.add_comm];exact NC c k
theorem Ct{motive:(b:Nat)->(ms:List Nd)->Seg b ms->Prop}(leaf:∀ (b op:Nat) (h:bG op=true),motive b [⟨op,0,0⟩] (Seg.leaf b op h))
  (one:∀ (b op:Nat) (ms:List Nd) (h:eF op=true) (hs:Seg b ms),motive b ms hs->motive b (ms++[⟨op,b+ms.length - 1,0⟩]) (Seg.one b op ms h hs))
  (two:∀ (b op:Nat) (ms ls:List Nd) (h:bU op=true) (h1:Seg b ms) (h2:Seg (b+ms.length) ls),motive b ms h1->motive (b+ms.length) ls h2->motive b (ms++ls++[⟨op,b+ms.length - 1,b+ms.length+ls.length - 1⟩]) (Seg.two b op ms ls h h1 h2))
  {b:Nat} {ms:List Nd} (t:Seg b ms):motive b ms t:=by
 obtain⟨k,a⟩:=t
 induction k generalizing b ms with
 | zero=>exact a.elim
 | succ k ih=>
  have c:=a;rcases c with⟨op,h,rfl⟩ | ⟨op,m,h1,h2,rfl⟩ | ⟨op,m,l,h1,h2,h3,rfl⟩
  ·exact leaf b op h
  ·exact one b op m h1 ⟨k,h2⟩ (ih h2)
  ·exact two b op m l h1 ⟨k,h2⟩ ⟨k,h3⟩ (ih h2) (ih h3)
theorem Lr:∀ (k:Nat) (s:ByteArray) (a:Nat) (ns:List Nd) (a':Nat) (eQ:List Nd),ps k s a ns=some (a',eQ)->∃ ms,eQ=ns++ms/\Seg ns.length ms
 | 0,_,_,_,_,_,h=>by simp[ps]at h
 | k+1,s,a,ns,a',eQ,h=>by
  by_cases b1:bG (bt s a)=true
  ·rw[qg b1]at h;simp only[aCC,aCP]at h;obtain⟨rfl,rfl⟩:=h;exact⟨_,rfl,Seg.leaf _ _ b1⟩
  ·rw[Bool.not_eq_true]at b1;by_cases b2:eF (bt s a)=true
   ·rw[uU b2]at h;unfold xy at h;cases e:ps k s (a+1) ns with
    | none=>rw[e]at h;simp at h
    | some x=>
     obtain⟨a1,n1⟩:=x;rw[e]at h;simp only[aCC,aCP]at h;obtain⟨rfl,rfl⟩:=h;obtain⟨ms,rfl,hs⟩:=Lr k s _ _ _ _ e;refine⟨_,List.append_assoc _ _ _,?_⟩;rw[aCd];exact Seg.one _ _ _ b2 hs
   ·rw[Bool.not_eq_true]at b2;by_cases b3:bt s a=40
    ·rw[qJ b3]at h;unfold ps2 at h;cases e:ps k s (a+1) ns with
     | none=>rw[e]at h;simp at h
     | some x=>
      obtain⟨a1,n1⟩:=x;rw[e]at h;simp only at h;by_cases b4:bU (bt s a1)=true
      ·rw[aC2 b4]at h;cases e2:ps k s (a1+1) n1 with
       | none=>rw[e2]at h;simp at h
       | some x=>
        obtain⟨a2,n2⟩:=x;rw[e2]at h;simp only at h;by_cases b5:bt s a2=41
        ·rw[aC2 b5]at h;simp only[aCC,aCP]at h;obtain⟨rfl,rfl⟩:=h;obtain⟨ms,rfl,h1⟩:=Lr k s _ _ _ _ e;obtain⟨ls,rfl,h2⟩:=Lr k s _ _ _ _ e2;rw[aCd]at h2;have h3:=Seg.two ns.length (bt s a1) ms ls b4 h1 h2;refine⟨_,?_,h3⟩;simp only[List.append_assoc,aCd];rw[show ns.length+(ms.length+ls.length) - 1=ns.length+ms.length+ls.length - 1 by omega]
        ·rw[aC1 b5]at h;simp at h
      ·rw[aC1 b4]at h;simp at h
    ·rw[IU b1 b2 b3]at h;simp at h
theorem AR{s:ByteArray}(h:(af s).1=0):Seg 0 (af s).2:=by
 unfold af at h ⊢
 split at h
 ·simp at h
 ·rename_i h1;rw[aC1 h1];cases e:ps 25 s 0 [] with
  | none=>rw[e]at h;simp at h
  | some x=>
   obtain⟨a,ns⟩:=x;rw[e]at h;simp only at h ⊢
   split at h
   ·rename_i h2;rw[aC2 h2]
    split at h
    ·simp at h
    ·rename_i h3;rw[aC1 h3];obtain⟨ms,b,c⟩:=Lr _ _ _ _ _ _ e;simp only[List.nil_append]at b;subst b;exact c
   ·simp at h
theorem wJ{b:Nat}{ms:List Nd}(h:Seg b ms):0<ms.length:=by
 induction h using Ct <;> simp <;> omega
theorem Av{b:Nat}{ms:List Nd}(h:Seg b ms):∀ i nd,ms[i]?=some nd->bG nd.op=true\/(eF nd.op=true/\b<=nd.l/\nd.l<b+i)\/(bU nd.op=true/\b<=nd.l/\nd.l<b+i/\b<=nd.r/\nd.r<b+i):=by
 induction h using Ct with
 | leaf b op ho=>
  intro i nd a;cases i with
  | zero=>simp at a;subst a;exact aCa ho
  | succ i=>simp at a
 | one b op ms ho hs ih=>
  intro i nd a;have f:=wJ hs;by_cases e:i<ms.length
  ·rw[aCh e]at a;exact ih i nd a
  ·rw[aCi (by omega)]at a;have c:i=ms.length:=by
    have:=(aB9.1 a).1;simp at this;omega
   subst c;simp at a;subst a;exact aCb (aCa ⟨ho,by simp only;omega,by simp only;omega⟩)
 | two b op ms ls ho h1 h2 ih1 XP=>
  intro i nd a;have g:=wJ h1;have j:=wJ h2;by_cases e:i<ms.length+ls.length
  ·rw[aCh (by rw[aCd];exact e)]at a;by_cases d:i<ms.length
   ·rw[aCh d]at a;exact ih1 i nd a
   ·rw[aCi (by omega)]at a;rcases XP _ nd a with h | ⟨h,h3,h4⟩ | ⟨h,h3,h4,h5,h6⟩
    ·exact aCa h
    ·exact aCb (aCa ⟨h,by omega,by omega⟩)
    ·exact aCb (aCb ⟨h,by omega,by omega,by omega,by omega⟩)
  ·rw[aCi (by rw[aCd];omega)]at a;have c:i=ms.length+ls.length:=by
    have:=(aB9.1 a).1;simp at this;omega
   subst c;simp at a;subst a;exact aCb (aCb ⟨ho,by simp only;omega,by simp only;omega,by simp only;omega,by simp only;omega⟩)
def Il(σ:Nat->Bool)(j:Nat)(nd:Nd):Prop:=(eF nd.op=true->σ nd.l=(if nd.op=33 then !σ j else σ j))/\(bU nd.op=true->σ nd.l=σ j/\σ nd.r=σ j)
theorem zD{σ τ:Nat->Bool}{j:Nat}{nd:Nd}(h:Il σ j nd)(hj:τ j=σ j)(hl:eF nd.op=true\/bU nd.op=true->τ nd.l=σ nd.l)(hr:bU nd.op=true->τ nd.r=σ nd.r):Il τ j nd:=
 ⟨λho=>by rw[hl (aCa ho),hj];exact h.1 ho,λho=>by rw[hl (aCb ho),hr ho,hj];exact h.2 ho⟩
theorem PR{σ:Nat->Bool}{j:Nat}{nd:Nd}(h:bG nd.op=true):Il σ j nd:=by
 have a:eF nd.op=false:=by
  cases e:eF nd.op with
  | false=>rfl
  | true=>rw[kW e]at h;cases h
 have b:bU nd.op=false:=by
  simp only[bG,aCN,beq_iff_eq]at h;rcases h with(((h | h) | h) | h) | h <;> rw[h] <;> decide
 exact⟨λh=>(by rw[a]at h;cases h),λh=>(by rw[b]at h;cases h)⟩
theorem Ww{b:Nat}(h:bU b=true):eF b=false:=by
 simp only[bU,aCN,beq_iff_eq]at h;rcases h with((h | h) | h) | h <;> rw[h] <;> decide
theorem Sm{b:Nat}{ms:List Nd}(h:Seg b ms):∀ s:Bool,∃ σ:Nat->Bool,σ (b+ms.length - 1)=s/\∀ i nd,ms[i]?=some nd->Il σ (b+i) nd:=by
 induction h using Ct with
 | leaf b op ho=>
  intro s;refine⟨λ_=>s,rfl,λi nd c=>?_⟩;cases i with
  | zero=>simp at c;subst c;exact PR ho
  | succ i=>simp at c
 | one b op ms ho hs ih=>
  intro s;have v:=wJ hs;obtain⟨σ,g,k⟩:=ih (if op=33 then !s else s);refine⟨λj=>if j=b+ms.length then s else σ j,by simp,λi nd c=>?_⟩;by_cases e:i<ms.length
  ·rw[aCh e]at c;refine zD (k i nd c) (by rw[aC1 (by omega)]) (λa=>?_) (λa=>?_)
   ·rw[aC1];rcases Av hs i nd c with h | ⟨h,h3,h4⟩ | ⟨h,h3,h4,h5,h6⟩
    ·have n:eF nd.op=false:=by
      cases e:eF nd.op with
      | false=>rfl
      | true=>rw[kW e]at h;cases h
     have w:=(PR (σ:=λ_=>true) (j:=0) h);rcases a with a | a
     ·rw[n]at a;cases a
     ·have:bU nd.op=false:=by
       simp only[bG,aCN,beq_iff_eq]at h;rcases h with(((h | h) | h) | h) | h <;> rw[h] <;> decide
      rw[this]at a;cases a
    ·omega
    ·omega
   ·rw[aC1];rcases Av hs i nd c with h | ⟨h,h3,h4⟩ | ⟨h,h3,h4,h5,h6⟩
    ·have:bU nd.op=false:=by
      simp only[bG,aCN,beq_iff_eq]at h;rcases h with(((h | h) | h) | h) | h <;> rw[h] <;> decide
     rw[this]at a;cases a
    ·rw[l8 h]at a;cases a
    ·omega
  ·rw[aCi (by omega)]at c;have m:i=ms.length:=by
    have:=(aB9.1 c).1;simp at this;omega
   subst m;simp at c;subst c;refine⟨λ_=>?_,λa=>(by rw[l8 ho]at a;cases a)⟩;dsimp only;rw[aC1 (by omega),aC2 rfl,g]
 | two b op ms ls ho g k ih1 XP=>
  intro s;have x:=wJ g;have y:=wJ k;obtain⟨σ1,o,p⟩:=ih1 s;obtain⟨σ2,q,t⟩:=XP s;have l:∀ {nd:Nd},bG nd.op=true->bU nd.op=false:=λ{nd} h=>by
   simp only[bG,aCN,beq_iff_eq]at h;rcases h with(((h | h) | h) | h) | h <;> rw[h] <;> decide
  have d:∀ {nd:Nd},bG nd.op=true->eF nd.op=false:=λ{nd} h=>by
   simp only[bG,aCN,beq_iff_eq]at h;rcases h with(((h | h) | h) | h) | h <;> rw[h] <;> decide
  refine⟨λj=>if j<b+ms.length then σ1 j else if j<b+ms.length+ls.length then σ2 j else s,?_,λi nd c=>?_⟩
  ·simp only[aCd,aCv];rw[aC1 (by omega),aC1 (by omega)]
  ·by_cases e:i<ms.length+ls.length
   ·rw[aCh (by rw[aCd];exact e)]at c;by_cases u:i<ms.length
    ·rw[aCh u]at c;have r:=Av g i nd c;refine zD (p i nd c) (by rw[aC2 (by omega)]) (λa=>?_) (λa=>?_)
     ·rcases r with h | ⟨h,h3,h4⟩ | ⟨h,h3,h4,h5,h6⟩
      ·rcases a with a | a
       ·rw[d h]at a;cases a
       ·rw[l h]at a;cases a
      ·rw[aC2 (by omega)]
      ·rw[aC2 (by omega)]
     ·rcases r with h | ⟨h,h3,h4⟩ | ⟨h,h3,h4,h5,h6⟩
      ·rw[l h]at a;cases a
      ·rw[l8 h]at a;cases a
      ·rw[aC2 (by omega)]
    ·rw[aCi (by omega)]at c;have r:=Av k _ nd c;have f:=t _ nd c;rw[show b+ms.length+(i - ms.length)=b+i by omega]at f;refine zD f (by rw[aC1 (by omega),aC2 (by omega)]) (λa=>?_) (λa=>?_)
     ·rcases r with h | ⟨h,h3,h4⟩ | ⟨h,h3,h4,h5,h6⟩
      ·rcases a with a | a
       ·rw[d h]at a;cases a
       ·rw[l h]at a;cases a
      ·rw[aC1 (by omega),aC2 (by omega)]
      ·rw[aC1 (by omega),aC2 (by omega)]
     ·rcases r with h | ⟨h,h3,h4⟩ | ⟨h,h3,h4,h5,h6⟩
      ·rw[l h]at a;cases a
      ·rw[l8 h]at a;cases a
      ·rw[aC1 (by omega),aC2 (by omega)]
   ·rw[aCi (by rw[aCd];omega)]at c;have m:i=ms.length+ls.length:=by
     have:=(aB9.1 c).1;simp at this;omega
    subst m;simp at c;subst c;refine⟨λa=>(by rw[Ww ho]at a;cases a),λ_=>?_⟩;dsimp only;constructor
    ·rw[aC2 (show b+ms.length - 1<b+ms.length by omega),o,aC1 (show ¬ b+(ms.length+ls.length)<b+ms.length by omega),aC1 (show ¬ b+(ms.length+ls.length)<b+ms.length+ls.length by omega)]
    ·rw[aC1 (show ¬ b+ms.length+ls.length - 1<b+ms.length by omega),aC2 (show b+ms.length+ls.length - 1<b+ms.length+ls.length by omega),q,aC1 (show ¬ b+(ms.length+ls.length)<b+ms.length by omega),aC1 (show ¬ b+(ms.length+ls.length)<b+ms.length+ls.length by omega)]
theorem AV{α:Type} [DecidableEq α]:∀ (L M:List α),L.Nodup->(∀ x∈L,x∈M)->L.length<=M.length
 | [],M,_,_=>aCg _
 | x::L,M,hd,hs=>by
  rw[List.nodup_cons]at hd;have hx:=hs x (List.mem_cons_self ..);have h1:=AV L (M.erase x) hd.2 (λy hy=>(List.mem_erase_of_ne (λe=>hd.1 (by subst e;exact hy))).2 (hs y (List.mem_cons_of_mem _ hy)));rw[List.length_erase_of_mem hx]at h1;have:0<M.length:=List.length_pos_of_mem hx;simp;omega
def tab(n:Nat)(f:Nat->Bool):List Bool:=(List.range (2 ^ n)).map f
theorem aiT(n:Nat)(f:Nat->Bool):(tab n f).length=2 ^ n:=by simp[tab]
theorem RZ(n:Nat)(f:Nat->Bool):tab (n+1) f=tab n f++tab n (λb=>f (2 ^ n+b)):=by
 unfold tab;rw[show 2 ^ (n+1)=2 ^ n+2 ^ n by omega,List.range_add,aCM,List.map_map];rfl
theorem Xr{n:Nat}{f g:Nat->Bool}(h:tab n f=tab n g){b:Nat}(hb:b<2 ^ n):f b=g b:=by
 have a:(tab n f)[b]?=some (f b):=by simp[tab,hb]
 have c:(tab n g)[b]?=some (g b):=by simp[tab,hb]
 rw[h,c]at a;exact(Option.some.inj a).symm
def akF(a b:Nat):Prop:=∀ i,a.testBit i=true->b.testBit i=true
def vY(n:Nat)(f:Nat->Bool):Prop:=∀ a b,a<2 ^ n->b<2 ^ n->akF a b->f a=true->f b=true
theorem Sv{n:Nat}{f:Nat->Bool}(h:vY (n+1) f):vY n f:=λa b ha hb hs hf=>h a b (by rw[Nat.pow_succ];omega) (by rw[Nat.pow_succ];omega) hs hf
theorem zy{n b:Nat}(hb:b<2 ^ n)(i:Nat):(2 ^ n+b).testBit i=(if i=n then true else b.testBit i):=by
 by_cases e:i=n
 ·subst e;rw[aC2 rfl,Nat.testBit_two_pow_add_eq,Nat.testBit_lt_two_pow hb];rfl
 ·rw[aC1 e];by_cases h:i<n
  ·exact Nat.testBit_two_pow_add_gt h b
  ·have a:2 ^ n+b<2 ^ i:=by
    have:2 ^ (n+1)<=2 ^ i:=Nat.pow_le_pow_right (by omega) (by omega);rw[Nat.pow_succ]at this;omega
   rw[Nat.testBit_lt_two_pow a,Nat.testBit_lt_two_pow (aCq hb (Nat.pow_le_pow_right (by omega) (by omega)))]
theorem Pv{n:Nat}{f:Nat->Bool}(h:vY (n+1) f):vY n (λb=>f (2 ^ n+b)):=λa b ha hb hs hf=>
 h (2 ^ n+a) (2 ^ n+b) (by rw[Nat.pow_succ];omega) (by rw[Nat.pow_succ];omega) (λi hi=>by
  rw[zy ha]at hi;rw[zy hb]
  split
  ·rfl
  ·rename_i e;rw[aC1 e]at hi;exact hs i hi) hf
theorem abq{n:Nat}{f:Nat->Bool}(h:vY (n+1) f):∀ b,b<2 ^ n->f b=true->f (2 ^ n+b)=true:=λb hb hf=>
 h b (2 ^ n+b) (by rw[Nat.pow_succ];omega) (by rw[Nat.pow_succ];omega) (λi hi=>by
  rw[zy hb]
  split
  ·rfl
  ·exact hi) hf
def VG:Nat->List (List Bool)
 | 0=>[[]]
 | n+1=>(VG n).flatMap λl=>[false::l,true::l]
theorem Tt:∀ (l:List Bool),l∈VG l.length
 | []=>by simp[VG]
 | b::l=>by
  simp only[List.length_cons,VG,List.mem_flatMap];exact⟨l,Tt l,by cases b <;> simp⟩
def upB(l:List Bool):Bool:=(List.range 8).all λa=>(List.range 8).all λb=>!((a &&& b)==a)||(!(l.getD a false)||l.getD b false)
def leB(p q:List Bool):Bool:=(p.zip q).all λx=>!x.1||x.2
def m3:List (List Bool):=(VG 8).filter upB
def m4:List (List Bool):=m3.flatMap λp=>(m3.filter λq=>leB p q).map λq=>p++q
theorem ak5:m4.length=168:=by decide +kernel
theorem aeJ{a b:Nat}(h:a &&& b=a):akF a b:=λi hi=>by
 have:(a &&& b).testBit i=true:=by rw[h];exact hi
 rw[Nat.testBit_and,aCH]at this;exact this.2
theorem R7{n:Nat}{f:Nat->Bool}{b:Nat}(hb:b<2 ^ n):(tab n f).getD b false=f b:=by simp[tab,List.getD,hb]
theorem abQ{f:Nat->Bool}(h:vY 3 f):tab 3 f∈m3:=by
 unfold m3;rw[List.mem_filter];refine⟨by have:=Tt (tab 3 f);rwa [aiT]at this,?_⟩;unfold upB;simp only[List.all_eq_true,aCQ];intro a c b d;rw[R7 (n:=3) (by simpa using c),R7 (n:=3) (by simpa using d)];by_cases e:a &&& b=a
 ·cases hf:f a with
  | false=>simp
  | true=>simp[h a b (by simpa using c) (by simpa using d) (aeJ e) hf]
 ·have:((a &&& b)==a)=false:=aCe.2 e;simp[this]
theorem ajJ{n:Nat}{f g:Nat->Bool}(h:∀ b,b<2 ^ n->f b=true->g b=true):leB (tab n f) (tab n g)=true:=by
 unfold leB tab;rw[List.all_eq_true];intro x a;rw[List.zip_map',aCU]at a;obtain⟨b,c,rfl⟩:=a;have:=h b (by simpa using c);dsimp only;cases hf:f b with
 | false=>rfl
 | true=>simp[this hf]
theorem ak3{f:Nat->Bool}(h:vY 4 f):tab 4 f∈m4:=by
 rw[RZ];unfold m4;rw[List.mem_flatMap];refine⟨_,abQ (Sv h),?_⟩;rw[aCU];exact⟨_,List.mem_filter.2 ⟨abQ (Pv h),ajJ (abq h)⟩,rfl⟩
def twice(M:List (List Bool)):List (List Bool):=M.flatMap λp=>M.map λq=>p++q
theorem Pb(M:List (List Bool)):(twice M).length=M.length*M.length:=by
 unfold twice;rw[List.length_flatMap];have:(M.map λp=>(M.map λq=>p++q).length)=List.replicate M.length M.length:=by
  rw[List.eq_replicate_iff];exact⟨by simp,λb a=>by simp at a;obtain⟨_,_,rfl⟩:=a;rfl⟩
 rw[this];simp
theorem PL{n:Nat}{M:List (List Bool)}(hM:∀ f,vY n f->tab n f∈M){f:Nat->Bool}(h:vY (n+1) f):tab (n+1) f∈twice M:=by
 rw[RZ];unfold twice;rw[List.mem_flatMap];exact⟨_,hM _ (Sv h),aCU.2 ⟨_,hM _ (Pv h),rfl⟩⟩
def m6:List (List Bool):=twice (twice m4)
theorem abS:m6.length=796594176:=by
 unfold m6;rw[Pb,Pb,ak5]
theorem abP{f:Nat->Bool}(h:vY 6 f):tab 6 f∈m6:=PL (λg hg=>PL (λk hk=>ak3 hk) hg) h
