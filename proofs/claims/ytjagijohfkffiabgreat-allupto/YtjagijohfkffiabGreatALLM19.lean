import Derived.Test.YtjagijohfkffiabGreatALLM18
set_option maxHeartbeats 16000000
set_option maxRecDepth 100000
set_option linter.unusedSimpArgs false
namespace Go.Proofs.YtjagijohfkffiabGreat
set_option linter.unusedVariables false
theorem JE(ns:List Nd)(M:Nat)(m:Nat->Nat->Bool)(a:Nat):∀ (u:List Nat) (P:Nat->Prop) (j:Nat),vV ns M m (u++[a]) P j↔PI ns M m (vV ns M m u P) a j
 | [],P,j=>Iff.rfl
 | x::u,P,j=>JE ns M m a u (PI ns M m P x) j
theorem adH{ns:List Nd}(hg:Good ns){M:Nat}{m:Nat->Nat->Bool}(hL:gB ns M m)(b:Bool):∀ (n:Nat) (u:List Nat),u.length=n->(∀ x∈u,x<8)->∀ j,j<M ->
  (vV ns M m u (λi=>i<M/\m i (ns.length - 1)=b) j↔(back ns u (dM (m j) ns.length)).testBit (ns.length - 1)=b):=by
 have B:=hg.pos;intro n
 induction n with
 | zero=>
  intro u f _ j o;obtain rfl:=List.eq_nil_of_length_eq_zero f;have e:(dM (m j) ns.length).testBit (ns.length - 1)=m j (ns.length - 1):=jA hg (m j) _ (by omega);show (j<M/\m j (ns.length - 1)=b)↔(dM (m j) ns.length).testBit (ns.length - 1)=b;rw[e];exact⟨λh=>h.2,λh=>⟨o,h⟩⟩
 | succ n ih=>
  intro u f r j o;obtain⟨d,a,rfl⟩:∃ d a,u=d++[a]:=⟨u.dropLast,u.getLast (by intro e;rw[e]at f;simp at f),(List.dropLast_concat_getLast _).symm⟩;have g:d.length=n:=by simpa using f
  have t:=r a (by simp);have k:∀ x∈d,x<8:=λx v=>r x (by simp[v]);rw[JE,QG];constructor
  ·rintro ⟨_,i,l,s,p,q⟩;have c:Step ns a (m i) (m j):=(lw hg.wf a _ _).2 ⟨Ex hg.wf (hL.live i l),p,q⟩;rw[ih d g k i l,<-Ah hg c (jA hg _)]at s;exact s
  ·intro w;have y:=xn hg (hL.live j o);have z:=BQ hg (PN t y (uG _ _ hg.le));obtain⟨i,l,A⟩:=hL.all _ z;have c:Step ns a (m i) (m j):=Dv hg.wf A (jA hg _) (kH hg a (dM (m j) ns.length));obtain⟨_,p,q⟩:=(lw hg.wf a _ _).1 c;refine⟨o,i,l,?_,p,q⟩;rw[ih d g k i l,<-Ah hg c (jA hg _)];exact w
theorem MN{ns:List Nd}(hg:Good ns){vs:List Nat}(hL:gB ns vs.length (aX vs)){u:List Nat}(hu:∀ x∈u,x<8)(hd:Bool){j:Nat}(hj:j<vs.length) :
  Aj ns vs u (λi=>aX vs i (ns.length - 1)==hd) j=((back ns u (dM (aX vs j) ns.length)).testBit (ns.length - 1)==hd):=by
 have a:=MM ns vs u (λi=>aX vs i (ns.length - 1)==hd) j;have b:=adH hg hL hd u.length u rfl hu j hj;rw[Bool.eq_iff_iff,beq_iff_eq,<-b];have e:(λi=>i<vs.length/\(aX vs i (ns.length - 1)==hd)=true)=λi=>i<vs.length/\aX vs i (ns.length - 1)=hd:=by funext i;simp
 rw[e]at a;rw[<-a];exact⟨λh=>⟨hj,h⟩,λh=>h.2⟩
theorem ab1(ns:List Nd)(cs:List (Nat->Bool)):∃ aa,jf ns cs aa:=⟨λv=>@decide _ (Classical.propDecidable (iQ (Ew 1 ns (fM 8)) (spreads cs) v)),λv=>by simp⟩
theorem afE{ns:List Nd}(hg:Good ns){v:Nat}(h:wh ns v):dM (tb v) ns.length=v:=by
 obtain⟨q,b,c,_⟩:=h;obtain⟨_,l,_,e⟩:=Ad.1 (c 0);rw[b]at e;have d:=kH hg l (q 1);have a:=Ah hg d (dU.refl _ _);rw[<-e]at a;exact a.symm
def yr(ns:List Nd)(vs:List Nat)(hd:Bool)(u:List Nat):Nat->Bool:=Aj ns vs u (λi=>aX vs i (ns.length - 1)==hd)
theorem IQ(ns:List Nd)(vs:List Nat)(hd:Bool)(u:List Nat)(a:Nat):yr ns vs hd (u++[a])=iU ns vs (yr ns vs hd u) a vs.length:=KM ns vs u _ a
theorem afa{ns:List Nd}(hg:Good ns){aa:Nat->Bool}(hl:jf ns (aW ns ns.length) aa){vs:List Nat}(hL:gB ns vs.length (aX vs)){u v:List Nat}(hu:∀ x∈u,x<8)(hv:∀ x∈v,x<8)(b:Bool) :
  (∀ j,j<vs.length->yr ns vs b u j=yr ns vs b v j)↔geq (dR ns aa (aL ns aa) u) (dR ns aa (aL ns aa) v)=true:=by
 constructor
 ·intro h;refine jR.2 λN n=>?_;rw[Bool.eq_iff_iff,oZ hg hl u hu,oZ hg hl v hv];cases e:aa N with
  | false=>simp
  | true=>
   have f:=(hl N).1 e;obtain⟨i,c,g⟩:=hL.all _ (BQ hg f);have k:dM (aX vs i) ns.length=N:=by rw[<-afE hg f];exact(Ey _ g).symm
   have a:=h i c;unfold yr at a;rw[MN hg hL hu b c,MN hg hL hv b c,k]at a;cases e1:(back ns u N).testBit (ns.length - 1) <;> cases e2:(back ns v N).testBit (ns.length - 1) <;> rw[e1,e2]at a <;> cases b <;> simp_all
 ·intro h j d;unfold yr;have l:=xn hg (hL.live j d);have a:=jR.1 h _ (uG (aX vs j) _ hg.le);rw[Bool.eq_iff_iff,oZ hg hl u hu,oZ hg hl v hv]at a;have m:=(hl _).2 l;simp only[m,true_and]at a;rw[MN hg hL hu b d,MN hg hL hv b d,Bool.eq_iff_iff.2 a]
theorem FU{ns:List Nd}(hg:Good ns){aa:Nat->Bool}(hl:jf ns (aW ns ns.length) aa){vs:List Nat}(hL:gB ns vs.length (aX vs)){u v:List Nat}{a:Nat}(ha:a<8)(hu:∀ x∈u,x<8)(hv:∀ x∈v,x<8)(b:Bool) :
  (∀ j,j<vs.length->yr ns vs b u j=iU ns vs (yr ns vs b v) a vs.length j)↔geq (dR ns aa (aL ns aa) u) (stepG ns aa (dR ns aa (aL ns aa) v) a)=true:=by
 rw[<-IQ,<-qH];refine afa hg hl hL hu (λx c=>?_) b;rcases aCG.1 c with c | c
 ·exact hv x c
 ·simp at c;omega
theorem Pd{ns:List Nd}(hg:Good ns){aa:Nat->Bool}(hl:jf ns (aW ns ns.length) aa){vs:List Nat}(hL:gB ns vs.length (aX vs)){u:List Nat}(hu:∀ x∈u,x<8) :
  Du (jJ (yr ns vs true u) vs.length) (jJ (yr ns vs false u) vs.length)=rE aa (dR ns aa (aL ns aa) u):=
 lZ (Xq hg hL u hu) (pM hg hl hu)
/-! ### Places: a spot and a set -/
theorem xh{K M k i:Nat}(hk:k<K)(hi:i<M):k*M+i<K*M:=by
 have a:(k+1)*M<=K*M:=Nat.mul_le_mul_right _ hk;rw[Nat.succ_mul]at a;omega
theorem uV{M k i:Nat}(hi:i<M):(k*M+i) % M=i:=by rw[Nat.mul_add_mod'];exact Nat.mod_eq_of_lt hi
theorem F9{M k i:Nat}(hi:i<M):(k*M+i) / M=k:=by
 rw[Nat.add_comm,Nat.add_mul_div_right _ _ (by omega),Nat.div_eq_of_lt hi,aCw]
theorem SQ{K M x:Nat}(hx:x<K*M):∃ k i,k<K/\i<M/\x=k*M+i:=by
 have a:0<M:=by
  rcases Nat.eq_zero_or_pos M with rfl | h
  ·simp at hx
  ·exact h
 refine⟨x / M,x % M,Nat.div_lt_of_lt_mul (by rw[Nat.mul_comm];exact hx),Nat.mod_lt _ a,?_⟩;rw[Nat.mul_comm];exact(Nat.div_add_mod x M).symm
def MvP(K:Nat)(Mv:Nat->Nat->Nat->Prop)(x sp:Nat->Nat):Prop:=∀ t,sp t<K/\Mv (sp t) (x t) (sp (t+1))
structure MR (ns:List Nd) (vs:List Nat) (K:Nat) (Mv:Nat->Nat->Nat->Prop) (to:Nat->List Nat) (kp:Nat->Nat->Bool):Prop where
 mem:∀ k i,k<K->i<vs.length->∀ b,b∈to (k*vs.length+i)↔∃ a k' j,a<8/\k'<K/\Mv k a k'/\tu ns (aX vs i) a/\j∈toS ns vs i/\b=k'*vs.length+j
 kept:∀ p k i,p<ns.length->k<K->i<vs.length->kp p (k*vs.length+i)=yn ns vs p i
theorem NP{ns:List Nd}{vs:List Nat}{i j:Nat}:j∈toS ns vs i↔j<vs.length/\Em ns (aX vs i) (aX vs j):=by
 unfold toS uj;rw[List.mem_filter,aCQ,En]
theorem NJ{ns:List Nd}{vs:List Nat}{K:Nat}{Mv:Nat->Nat->Nat->Prop}{to:Nat->List Nat}{kp:Nat->Nat->Bool}(h:MR ns vs K Mv to kp){a b:Nat}(ha:a<K*vs.length)(hb:b∈to a):b<K*vs.length:=by
 obtain⟨k,i,c,d,rfl⟩:=SQ ha;obtain⟨_,g,j,_,e,_,_,f,rfl⟩:=(h.mem k i c d b).1 hb;exact xh e (NP.1 f).1
theorem Qx{ns:List Nd}{x:Nat->Nat}{S:Nat->Nat->Bool}(hL:fu x)(h:yf ns x S)(t:Nat):chain ns [] (S t):=by
 refine⟨λi=>x (t+i),λi=>S (t+i),λi=>hL _,⟨λi=>h.step (t+i),λk b c i=>?_⟩,dU.refl _ _⟩;obtain⟨a,e,d⟩:=h.kept k b c (t+i);exact⟨a - t,by omega,by show iq b k (S (t+(a - t)))=true;rw[show t+(a - t)=a by omega];exact d⟩
theorem Px{ns:List Nd}(hg:Good ns){vs:List Nat}(hL:gB ns vs.length (aX vs)){K:Nat}{Mv:Nat->Nat->Nat->Prop}{to:Nat->List Nat}{kp:Nat->Nat->Bool}(h:MR ns vs K Mv to kp){k i:Nat}(hk:k<K)(hi:i<vs.length) :
  (∃ c,c<K*vs.length/\reach (Ed (K*vs.length) to) (k*vs.length+i) c/\GN (K*vs.length) to ns.length kp c)↔∃ x sp S,fu x/\sp 0=k/\MvP K Mv x sp/\yf ns x S/\dU ns.length (S 0) (aX vs i):=by
 have v:=hg.wf;have O:=Cc (E:=Ed (K*vs.length) to) (K:=λp i=>kp p i=true) (m:=ns.length) (n:=K*vs.length) (a:=k*vs.length+i) (λa b w=>NJ h w.1 w.2) (xh hk hi);unfold GN;rw[<-O];constructor
 ·rintro ⟨q,G,H,o⟩;have P:∀ t,∃ l y,l<K/\y<vs.length/\q t=l*vs.length+y:=λt=>SQ (H t).1
  let sp:Nat->Nat:=λt=>q t / vs.length
  let si:Nat->Nat:=λt=>q t % vs.length
  have d:∀ t,sp t<K/\si t<vs.length/\q t=sp t*vs.length+si t:=λt=>by
   obtain⟨l,y,r,f,e⟩:=P t;have B:sp t=l:=by show q t / vs.length=l;rw[e,F9 f]
   have z:si t=y:=by show q t % vs.length=y;rw[e,uV f]
   rw[B,z];exact⟨r,f,e⟩
  have I:∀ t,∃ a,a<8/\Mv (sp t) a (sp (t+1))/\tu ns (aX vs (si t)) a/\Em ns (aX vs (si t)) (aX vs (si (t+1))):=λt=>by
   obtain⟨r,f,e⟩:=d t;obtain⟨J,L,e'⟩:=d (t+1);have M:=(H t).2;rw[e]at M;obtain⟨a,l,j,Q,Ma,C,R,T,N⟩:=(h.mem _ _ r f _).1 M;obtain⟨A,U⟩:=NP.1 T;have B:sp (t+1)=l:=by show q (t+1) / vs.length=l;rw[N,F9 A]
   have z:si (t+1)=j:=by show q (t+1) % vs.length=j;rw[N,uV A]
   rw[B,z];exact⟨a,Q,C,R,U⟩
  let x:Nat->Nat:=λt=>Classical.choose (I t)
  have s:∀ t,x t<8/\Mv (sp t) (x t) (sp (t+1))/\tu ns (aX vs (si t)) (x t)/\Em ns (aX vs (si t)) (aX vs (si (t+1))):=λt=>Classical.choose_spec (I t);refine⟨x,sp,λt=>aX vs (si t),λt=>(s t).1,by show q 0 / vs.length=k;rw[G,F9 hi],λt=>⟨(d t).1,(s t).2.1⟩,⟨λt=>?_,λp nd V t=>?_⟩,by
   show dU _ (aX vs (q 0 % vs.length)) _;rw[G,uV hi];exact dU.refl _ _⟩
  ·exact(lw v _ _ _).2 ⟨Ex v (hL.live _ (d t).2.1),(s t).2.2.1,(s t).2.2.2⟩
  ·obtain⟨u,e⟩:=NN V;subst e;obtain⟨g,r,f⟩:=o p u t;refine⟨g,r,?_⟩;obtain⟨J,L,e⟩:=d g;rw[e,h.kept p _ _ u J L]at f;exact f
 ·rintro ⟨x,sp,S,s,W,o,D,X⟩;have F:∀ t,∃ j,j<vs.length/\dU ns.length (S t) (aX vs j):=λt=>hL.all _ (Qx s D t)
  let si:Nat->Nat:=λt=>if t=0 then i else Classical.choose (F t)
  have d:∀ t,si t<vs.length/\dU ns.length (S t) (aX vs (si t)):=λt=>by
   by_cases e:t=0
   ·subst e;exact⟨hi,X⟩
   ·have z:si t=Classical.choose (F t):=aC1 e;rw[z];exact Classical.choose_spec (F t)
  refine⟨λt=>sp t*vs.length+si t,by show sp 0*vs.length+i=_;rw[W],λt=>⟨xh (o t).1 (d t).1,?_⟩,λp u t=>?_⟩
  ·obtain⟨_,Y,Z⟩:=(lw v (x t) (S t) (S (t+1))).1 (D.step t);exact(h.mem _ _ (o t).1 (d t).1 _).2 ⟨x t,sp (t+1),si (t+1),s t,(o (t+1)).1,(o t).2,DK (d t).2 Y,NP.2 ⟨(d (t+1)).1,Hm v (d t).2 (d (t+1)).2 Z⟩,rfl⟩
  ·obtain⟨g,r,f⟩:=D.kept p _ (jS u) t;refine⟨g,r,?_⟩;show kp p (sp g*vs.length+si g)=true;rw[h.kept p _ _ u (o g).1 (d g).1];unfold yn;rw[<-LJ v (d g).2 u];exact f
theorem DR{ns:List Nd}(hg:Good ns){vs:List Nat}(hL:gB ns vs.length (aX vs)){K:Nat}{Mv:Nat->Nat->Nat->Prop}{to:Nat->List Nat}{kp:Nat->Nat->Bool}(h:MR ns vs K Mv to kp){good:Nat->Bool}(nZ:∀ x,good x=true↔∃ c,c<K*vs.length/\reach (Ed (K*vs.length) to) x c/\GN (K*vs.length) to ns.length kp c){k:Nat}(hk:k<K)(hd:Bool) :
  (∃ i,i<vs.length/\aX vs i (ns.length - 1)=hd/\good (k*vs.length+i)=true)↔∃ x sp,fu x/\sp 0=k/\MvP K Mv x sp/\(d9 (λi=>i+1) x ns (ns.length - 1) 0↔hd=true):=by
 have p:=hg.pos;constructor
 ·rintro ⟨i,a,m,d⟩;obtain⟨x,sp,S,b,e,f,g,n⟩:=(Px hg hL h hk a).1 ((nZ _).1 d);refine⟨x,sp,b,e,f,?_⟩;rw[<-Et hg.wf g _ (by omega),n _ (by omega),m]
 ·rintro ⟨x,sp,b,e,f,g⟩;obtain⟨S,o,j⟩:=pq hg.wf x;obtain⟨i,a,l⟩:=hL.all _ (Qx b j 0);refine⟨i,a,?_,(nZ _).2 ((Px hg hL h hk a).2 ⟨x,sp,S,b,e,f,j,l⟩)⟩;rw[<-l _ (by omega),Bool.eq_iff_iff,o];exact g
/-! ### What slips -/
def akH(out:Nat->Nat)(nx:Nat->Nat->Nat)(vd:Nat)(k a k':Nat):Prop:=out k≠vd/\k'=nx k a/\out (nx k a)≠vd
theorem WG{ns:List Nd}(hg:Good ns){aa:Nat->Bool}(hl:jf ns (aW ns ns.length) aa){us:List (List Nat)}{xs:List Nat}(hE:gU ns aa (aL ns aa) us xs)(hx:xs.length=8*us.length)(vd:Nat)(hd:Bool) :
  (∃ x sp,fu x/\sp 0=0/\MvP us.length (akH (dD ns aa (aL ns aa) us) (aZ xs) vd) x sp/\(d9 (λi=>i+1) x ns (ns.length - 1) 0↔hd=true))↔Nr ns vd hd:=by
 constructor
 ·rintro ⟨x,sp,a,g,f,b⟩;refine⟨x,a,b,λk h=>?_⟩;have c:=nV hg hl hE hx a g (λt=>(f t).2.2.1) k;exact(f k).2.1 (lZ c h)
 ·rintro ⟨x,a,b,d⟩
  let sp:Nat->Nat:=λt=>Nat.rec 0 (λt s=>aZ xs s (x t)) t
  have ss:∀ t,sp (t+1)=aZ xs (sp t) (x t):=λt=>rfl;have st:=uS hg hl hE hx a (sp:=sp) rfl ss;have c:=nV hg hl hE hx a (sp:=sp) rfl ss;have ne:∀ t,dD ns aa (aL ns aa) us (sp t)≠vd:=λt e=>d t (by rw[<-e];exact c t);exact⟨x,sp,a,rfl,λt=>⟨(st t).1,ne t,ss t,by rw[<-ss];exact ne (t+1)⟩,b⟩
theorem acT{ns:List Nd}(hg:Good ns){aa:Nat->Bool}(hl:jf ns (aW ns ns.length) aa){us:List (List Nat)}{xs:List Nat}(hE:gU ns aa (aL ns aa) us xs)(hx:xs.length=8*us.length) :
  (∀ i,i<us.length->dD ns aa (aL ns aa) us i≠2)↔∀ u,(∀ x∈u,x<8)->¬ jC ns u 2:=by
 constructor
 ·intro h u c d;obtain⟨i,a,f⟩:=OY hg hl hE hx c;exact h i a (lZ f d)
 ·intro h i a e;have b:us.getD i []∈us:=by simp[List.getD,aB3 a]
  refine h _ (hE.zQ _ b) ?_;have:=pM hg hl (hE.zQ _ b);unfold dD at e;rw[e]at this;exact this
open Go.RowKit
def mO(xs:List Nat)(i:Nat):List Nat:=(List.range 8).map λa=>xs.getD (8*i+a) 0
theorem zg(xs:List Nat)(i:Nat):(mO xs i).length=8:=by simp[mO]
theorem Tf(xs:List Nat){i a:Nat}(ha:a<8):bZ (mO xs i) a=aZ xs i a:=by simp[bZ,mO,aZ,List.getD,ha]
theorem J9{xs:List Nat}{i j:Nat}(h:8*i+8<=xs.length):mO (xs++[j]) i=mO xs i:=by
 unfold mO;refine aCX λa b=>?_;have:a<8:=by simpa using b
 exact fF (by omega)
theorem Te{xs:List Nat}{k:Nat}(h:xs.length=8*k+8):xs.drop (8*k)=mO xs k:=by
 apply List.ext_getElem
 ·simp[mO];omega
 ·intro i a b;simp at a;simp[mO,List.getD,aB3 (show 8*k+i<xs.length by omega)]
structure BJ (w:World) (P K:Nat) (out:Nat->Nat) (nx:Nat->List Nat):Prop where
 lt:P<w.heap.size
 c0:∃ ao cap,w.cell? ⟨P,0,none⟩=some (.slice ao K cap)
 c1:∃ v,w.cell? ⟨P,1,none⟩=some v/\NR w v ((List.range K).map out)
 c2:∃ v,w.cell? ⟨P,2,none⟩=some v/\MU w v K nx
theorem BJ.below{w w':World}{P K:Nat}{out:Nat->Nat}{nx:Nat->List Nat}(h:BJ w P K out nx)(hb:Below w.heap.size w w'):BJ w' P K out nx:=by
 obtain⟨a,cap,b⟩:=h.c0;obtain⟨c,d,e⟩:=h.c1;obtain⟨f,g,i⟩:=h.c2;exact⟨aCq h.lt hb.size,⟨a,cap,(hb.cell (p:=⟨P,0,none⟩) h.lt).trans b⟩,⟨c,(hb.cell (p:=⟨P,1,none⟩) h.lt).trans d,e.below hb⟩,⟨f,(hb.cell (p:=⟨P,2,none⟩) h.lt).trans g,i.below hb⟩⟩
def FD(ns:List Nd)(vs:List Nat)(u:List Nat):(Nat->Bool) × (Nat->Bool):=(yr ns vs true u,yr ns vs false u)
def xV(ns:List Nd)(aa:Nat->Bool)(us:List (List Nat)):List Nat:=us.map λu=>rE aa (dR ns aa (aL ns aa) u)
theorem ZF(ns:List Nd)(aa:Nat->Bool)(us:List (List Nat)):xV ns aa us=(List.range us.length).map (dD ns aa (aL ns aa) us):=by
 unfold xV;apply List.ext_getElem
 ·simp
 ·intro i a b;simp at a;simp[dD,List.getD,aB3 a]
theorem adB{ns:List Nd}(hg:Good ns){aa:Nat->Bool}(hl:jf ns (aW ns ns.length) aa){vs:List Nat}(hL:gB ns vs.length (aX vs)){us:List (List Nat)}{xs:List Nat}(hE:gU ns aa (aL ns aa) us xs){u0:List Nat}(h0:us[xs.length / 8]?=some u0){j:Nat}{rs rs':List (Nat × Nat)}(hrs:rs.length=us.length){outs':List Nat}{fs':List ((Nat->Bool) × (Nat->Bool))}{by_ bn:Nat}
  (h:(rs'=rs/\fs'=us.map (FD ns vs)/\outs'=xV ns aa us/\∃ p,(us.map (FD ns vs))[j]?=some p/\(∀ i,i<vs.length->p.1 i=iU ns vs (yr ns vs true u0) (xs.length % 8) vs.length i)) \/
  (j=rs.length/\rs'=rs++[(by_,bn)]/\fs'=us.map (FD ns vs)++[(iU ns vs (yr ns vs true u0) (xs.length % 8) vs.length,iU ns vs (yr ns vs false u0) (xs.length % 8) vs.length)]/\outs'=xV ns aa us++[Du (jJ (iU ns vs (yr ns vs true u0) (xs.length % 8) vs.length) vs.length) (jJ (iU ns vs (yr ns vs false u0) (xs.length % 8) vs.length) vs.length)]/\∀ p∈us.map (FD ns vs),¬ ((∀ i,i<vs.length->p.1 i=iU ns vs (yr ns vs true u0) (xs.length % 8) vs.length i)/\∀ i,i<vs.length->p.2 i=iU ns vs (yr ns vs false u0) (xs.length % 8) vs.length i))) :
  ∃ us',(∃ more,us'=us++more)/\gU ns aa (aL ns aa) us' (xs++[j])/\fs'=us'.map (FD ns vs)/\outs'=xV ns aa us'/\rs'.length=us'.length:=by
 have c:=hE.zQ u0 (aCJ h0);have d:xs.length % 8<8:=Nat.mod_lt _ (by omega);rcases h with⟨rfl,rfl,rfl,p,hp,hq⟩ | ⟨rfl,rfl,rfl,rfl,hall⟩
 ·rw[aCs,Option.map_eq_some_iff]at hp;obtain⟨k,f,rfl⟩:=hp;refine⟨us,⟨[],by simp⟩,Ve hE h0 f ?_,rfl,rfl,hrs⟩;exact(FU hg hl hL d (hE.zQ k (aCJ f)) c true).1 hq
 ·refine⟨us++[u0++[xs.length % 8]],⟨_,rfl⟩,?_,?_,?_,by simp[hrs]⟩
  ·rw[hrs];refine Vf hE h0 λu g=>?_;cases e:geq (dR ns aa (aL ns aa) u) (stepG ns aa (dR ns aa (aL ns aa) u0) (xs.length % 8)) with
   | false=>rfl
   | true=>
    have a:=hE.zQ u g;exact absurd ⟨(FU hg hl hL d a c true).2 e,(FU hg hl hL d a c false).2 e⟩ (hall _ (aCU.2 ⟨u,g,rfl⟩))
  ·rw[aCM];simp only[List.map_cons,List.map_nil,FD,IQ]
  ·unfold xV;rw[aCM];simp only[List.map_cons,List.map_nil];rw[<-IQ,<-IQ,Pd hg hl hL (λx b=>by
    rcases aCG.1 b with b | b
    ·exact c x b
    ·simp at b;omega)]
theorem BK.grown{w w':World}{B T M:Nat}{vS vO vN:Value}{rs:List (Nat × Nat)}{fs:List ((Nat->Bool) × (Nat->Bool))}{outs:List Nat}(h:BK w B T M vS vO vN rs fs outs){B2 e2 s2 n2:Nat}{v2:Value}{ys:List Value}(h2:w.ownsRow B2 e2 s2 v2 n2 ys)(hg:w.grownBy w' v2.ownBlock)(hT:v2.ownBlock≠some T)(h1:144≠e2)(h3:4≠e2)(h4:vO.ownBlock=none\/vO.ownBlock≠v2.ownBlock):BK w' B T M vS vO vN rs fs outs:=by
 have d:=hg.block T h.t.lt (λe=>hT e.symm);have c:∀ o,w'.cell? ⟨T,o,none⟩=w.cell? ⟨T,o,none⟩:=λo=>aCn (a:=⟨T,o,none⟩) d;have f:∀ o,w'.frozen? ⟨T,o,none⟩=w.frozen? ⟨T,o,none⟩:=λo=>aCo (a:=⟨T,o,none⟩) d;exact⟨⟨(c 0).trans h.t.c0,(c 1).trans h.t.c1,(c 2).trans h.t.c2,λo g=>(f o).trans (h.t.fz o g)⟩,h.tB,h.len,h.ZG,h.st.kept hg (aY h.st h2 h1),h.ou.kept hg h4,λi p q a b=>⟨(h.row i p q a b).1.kept hg (aY (h.row i p q a b).1 h2 h3),(h.row i p q a b).2.kept hg (aY (h.row i p q a b).2 h2 h3)⟩⟩
theorem BK.set2{w:World}{B T M:Nat}{vS vO vN:Value}{rs:List (Nat × Nat)}{fs:List ((Nat->Bool) × (Nat->Bool))}{outs:List Nat}(h:BK w B T M vS vO vN rs fs outs)(v:Value):BK (w.setCell ⟨T,2,none⟩ v) B T M vS vO v rs fs outs:=
 ⟨h.t.set2 v,h.tB,h.len,h.ZG,aB h.st h.tB 2 v,aB h.ou h.tB 2 v,λi p q a b=>⟨aB (h.row i p q a b).1 h.tB 2 v,aB (h.row i p q a b).2 h.tB 2 v⟩⟩
theorem fZ.kb{w w':World}{B e e' j T:Nat}{r1 r2:Option Nat}{v:Value}{V:Nat->Value}{xs:Nat->List Value}(h:fZ w B e e' v j V xs)(f:KB w w' T r1 r2)(hT:T<B)(h1:v.ownBlock=none\/v.ownBlock≠r1)(h2:v.ownBlock=none\/v.ownBlock≠r2)(h3:∀ i,i<j->(V i).ownBlock=none\/(V i).ownBlock≠r1)(h4:∀ i,i<j->(V i).ownBlock=none\/(V i).ownBlock≠r2):fZ w' B e e' v j V xs:=
 ⟨nu h.out f (λe=>by have:=(h.out.lt _ e).1;omega) h1 h2,λi hi=>nu (h.row i hi) f (λe=>by have:=((h.row i hi).lt _ e).1;omega) (h3 i hi) (h4 i hi)⟩
theorem fZ.xk{w w':World}{B e e' j:Nat}{v:Value}{V:Nat->Value}{xs:Nat->List Value}{r:Option Nat}(h:fZ w B e e' v j V xs)(hg:w.grownBy w' r)(h1:v.ownBlock=none\/v.ownBlock≠r)(h3:∀ i,i<j->(V i).ownBlock=none\/(V i).ownBlock≠r):fZ w' B e e' v j V xs:=
 ⟨h.out.kept hg h1,λi hi=>(h.row i hi).kept hg (h3 i hi)⟩
def aoE(ns:List Nd)(aa:Nat->Bool)(w:World)(e:Ending)(w':World):Prop:=
 ∃ us xs,e=.returned (.pointer (some ⟨w.heap.size,0,none⟩))/\gU ns aa (aL ns aa) us xs/\xs.length=8*us.length/\BJ w' w.heap.size us.length (dD ns aa (aL ns aa) us) (mO xs)/\Below w.heap.size w w'
theorem UQ(R F gp cap:Nat)(ns:List Nd)(bs vs:List Nat)(aa:Nat->Bool)(w:World)(h:tJ w R F gp cap ns bs vs)(hg:Good ns)(hM:vs.length<=256)(hl:jf ns (aW ns ns.length) aa)(hL:gB ns vs.length (aX vs))(Gw:∀ us xs,gU ns aa (aL ns aa) us xs->us.length<=796594185) :
  Calls Tryz.prog 37 #[.pointer (some ⟨R,0,none⟩)] w (aoE ns aa w):=by
 have hR:=h.lt;have HR:=hid h;have HG:=hid hg;have HL:=hid hL;have mJ:=hid hl;have rC:=hid Gw;obtain⟨i0,f,aT,aP,aO⟩:=info_parts Tryz.mE;obtain⟨i1,jU,gJ,gI,gG⟩:=info_parts Tryz.wP;clear h hg hl hL Gw;go_enter Tryz.func37,Tryz.ntmps37;go_wp2_with fail;have ba:=(aB4 w.heap.size w).alloc (aB2 _) (.cells #[.slice none 0 0,.slice none 0 0,.slice none 0 0] 81);have T1:=dx w (.slice none 0 0) (.slice none 0 0) (.slice none 0 0) 81;refine(FE R F gp cap ns bs vs true _ (HR.out.below ba) HG.out hM).mono ?_;rintro e w1 ⟨ga,rfl,-,hga,aC,W⟩;simp only[aB7]at hga aC W;have T2:=T1.below aC (by omega);have aK:=ba.trans (aC.mono (by omega));have hs1:=aC.size;simp only[aB7]at hs1;go_wp2_with fail;refine(FE R F gp cap ns bs vs false _ (HR.out.below aK) HG.out hM).mono ?_;rintro e w2 ⟨gb,rfl,-,Ju,ae,o2⟩;have T3:=T2.below ae (by omega);have aM:=hid (aK.trans (ae.mono (by omega)));have kX:=ae.size;have o1':=ai (bQ W (show w.heap.size+1<=w.heap.size+1 by omega)) ae;have o2':=bQ o2 (show w.heap.size+1<=w1.heap.size by omega);have FM:BK w2 (w.heap.size+1) w.heap.size vs.length (.slice none 0 0) (.slice none 0 0) (.slice none 0 0) [] [] []:=⟨T3,by omega,rfl,rfl,aCp _ _ _ _,aCp _ _ _ _,λi p q h=>by simp at h⟩;clear ba T1 T2 T3 aK aC ae W o2;go_wp2_with fail;refine(Yk w2 (w.heap.size+1) w.heap.size vs.length _ _ _ [] [] [] ga gb _ _ FM (by omega) (by simp) (by omega) o1' o2').mono ?_;rintro e w3 ⟨j,vS3,vO3,rs3,fs3,apb,rfl,H,K3,as2,nE⟩;obtain⟨rfl,rfl,rfl,rfl,ate⟩:j=0/\rs3=[(ga,gb)]/\fs3=[[]].map (FD ns vs)/\apb=xV ns aa [[]]/\True:=by
  rcases nE with⟨_,_,_,p,hp,_⟩ | ⟨rfl,rfl,rfl,rfl,_⟩
  ·simp at hp
  ·refine⟨rfl,rfl,rfl,?_,trivial⟩;have:=Pd HG.out mJ.out HL.out (u:=[]) (λx hx=>by simp at hx);simp only[xV,List.map_cons,List.map_nil,List.nil_append,<-this];rfl
 have bF:=hid (KA aM.out K3 (by omega) (aB2 _) (λk h=>by simp[Value.ownBlock]at h) (λk h=>by simp[Value.ownBlock]at h));have H:=hid H;have qQ:=K3.size;clear nE K3 as2 FM o1' o2' aM ate;go_wp2_with fail
 go_loopw [6] (λi z=>∃ (k:Nat) (us:List (List Nat)) (xs:List Nat) (vS r A:Value) (rs:List (Nat × Nat)) (V:Nat->Value),i=.int .i64 k/\k<=us.length/\xs.length=8*k/\rs.length=us.length/\Hid (gU ns aa (aL ns aa) us xs)/\Hid (BK z (w.heap.size+1) w.heap.size vs.length vS r A rs (us.map (FD ns vs)) (xV ns aa us))/\Hid (fZ z (w.heap.size+1) 22 3 A k V (λq=>aI (mO xs q)))/\Hid (∀ i,i<k->(V i).ownBlock≠r.ownBlock)/\Hid (Below w.heap.size w z)/\w.heap.size+1<=z.heap.size) (λi _=>796594190 - (intOf i).toNat)
 case atStart=>exact⟨0,[[]],[],vS3,vO3,_,_,λ_=>.slice none 0 0,rfl,by simp,rfl,rfl,hid Ms,H,hid (uk _ _ _ _ _ _),hid (λi h=>by omega),bF,by omega⟩
 case round=>
  obtain⟨k,us,xs,vS,r,A,rs,V,rfl,hk,Bb,b,I,d,m,HD,C,hsz⟩:=hrel;rename World=>W0;clear bF H;have XZ:=rC.out us xs I.out;have t0:=d.out.t.c0;have D:=d.out.st;rw[b]at D;obtain⟨Ih,CU,rfl⟩:=ak D;by_cases hlk:k<us.length
  ·obtain⟨u0,EY⟩:∃ u0,us[k]?=some u0:=⟨us[k],aB3 hlk⟩;have S:=hid EY;have Dc:=hid (λi (f:i<k) q (h:(V i).ownBlock=some q)=>((m.out.row i f).lt q h).2);clear D EY;go_wp2_with fail
   go_loopw [7,8] (λvL i z=>∃ (l:Nat) (us:List (List Nat)) (xs:List Nat) (vS r:Value) (rs:List (Nat × Nat)),i=.int .i64 l/\l<=8/\xs.length=8*k+l/\rs.length=us.length/\Hid (us[k]?=some u0)/\Hid (gU ns aa (aL ns aa) us xs)/\Hid (BK z (w.heap.size+1) w.heap.size vs.length vS r A rs (us.map (FD ns vs)) (xV ns aa us))/\Hid (fZ z (w.heap.size+1) 22 3 A k V (λq=>aI (mO xs q)))/\Hid (∀ i,i<k->(V i).ownBlock≠r.ownBlock)/\Hid (z.ownsRow W0.heap.size 3 1 vL l (aI (xs.drop (8*k))))/\Hid (vL.ownBlock=none\/vL.ownBlock≠r.ownBlock)/\Hid (Below w.heap.size w z)/\W0.heap.size<=z.heap.size) (λ_ i _=>8 - (intOf i).toNat)
   case atStart=>exact⟨0,us,xs,_,_,rs,rfl,by omega,by omega,b,S,I,d,m,HD,by rw[List.drop_of_length_le (by omega)];exact hid (aCp _ _ _ _),hid (aCa rfl),C,aB2 _⟩
   case round=>
    obtain⟨l,us,xs,vS,r,rs,rfl,hl8,Bb,b,S,I,d,m,HD,Dj,J,C,jT⟩:=hrel;rename World=>W3;clear t0;have D:=d.out.st;rw[b]at D;obtain⟨azL,atO,rfl⟩:=ak D;by_cases jI:l<8
    ·have Uq:=(aB9.1 S.out).1;have XZ:=rC.out us xs I.out;obtain⟨gS,rfl,hgS,al9,hcS⟩:=eZ D (by omega);obtain⟨⟨p1,p2⟩,hp⟩:∃ p,rs[k]?=some p:=⟨rs[k]'(by rw[b];exact Uq),aB3 (by rw[b];exact Uq)⟩;have t0:=d.out.t.c0;have y0:W3.cell? ⟨gS,k*2,none⟩=some (.slice (some ⟨p1,0,none⟩) vs.length vs.length):=by rw[D.cellAt (k*2) (by omega),(yT hp).1]
     have y1:W3.cell? ⟨gS,k*2+1,none⟩=some (.slice (some ⟨p2,0,none⟩) vs.length vs.length):=by rw[D.cellAt (k*2+1) (by omega),(yT hp).2]
     obtain⟨W,o2⟩:=d.out.row k (p1,p2) (FD ns vs u0) hp (by rw[aCs,S.out];rfl);dsimp only[FD]at W o2;have CR:w.heap.size<W3.heap.size:=d.out.t.lt;have anH:=hid (xA W);have anG:=hid (xA o2);clear D hp W o2;go_wp2_with fail;refine(Td R F gp cap p1 l ns bs vs (yr ns vs true u0) W3 (HR.out.below C.out) HG.out hM jI anH.out).mono ?_;rintro e w4 ⟨gy,rfl,-,hgy,dB,o4⟩;have t04:=(dB.cell (p:=⟨w.heap.size,0,none⟩) CR).trans t0;have y14:=(dB.cell (p:=⟨gS,k*2+1,none⟩) al9).trans y1;have Bd:=dB.size;have dW:=hid (C.out.trans (dB.mono C.out.size));have X:=hid dB;have O4:=hid o4;clear y0 y1 t0 dB o4;go_wp2_with fail;refine(Td R F gp cap p2 l ns bs vs (yr ns vs false u0) w4 (HR.out.below dW.out) HG.out hM jI (anG.out.below X.out)).mono ?_;rintro e w5 ⟨gn,rfl,-,wz,bi,o5⟩;have vB:=bi.size;have bb:=X.out.trans (bi.mono Bd);have E:=d.out.below bb;have T:=m.out.keeps bb;have Y:=ai Dj.out bb;have fH:=dW.out.trans (bi.mono dW.out.size);have K:=ai (bQ O4.out (show w.heap.size+1<=W3.heap.size by omega)) bi;have L:=bQ o5 (show w.heap.size+1<=w4.heap.size by omega);have E:=hid E;have T:=hid T;have Y:=hid Y;have fH:=hid fH;have K:=hid K;have L:=hid L;clear bi o5 bb d m Dj C dW X O4 anH anG t04 y14;have CE:xs.length / 8=k/\xs.length % 8=l:=by omega
     go_wp2_with fail;refine(Yk w5 (w.heap.size+1) w.heap.size vs.length _ _ _ rs _ _ gy gn _ _ E.out (by omega) (by omega) (by omega) K.out L.out).mono ?_;rintro e w6 ⟨j,vS6,Xn,rs6,fs6,apa,rfl,FM6,K6,Z,nE⟩;obtain⟨M,⟨more,LX⟩,N,rfl,rfl,ata⟩:=adB HG.out mJ.out HL.out I.out (u0:=u0) (by rw[CE.1];exact S.out) (j:=j) (rs:=rs) (rs':=rs6) b (outs':=apa) (fs':=fs6) (by_:=gy) (bn:=gn) (by rw[CE.2];exact nE);have hu6:M[k]?=some u0:=by rw[LX,aCh Uq];exact S.out
     have vNe:A.ownBlock=none\/A.ownBlock≠(Value.slice (some ⟨gS,0,none⟩) us.length atO).ownBlock:=by
      have O:=E.out.st;exact aY T.out.out O (by decide)
     have vNo:A.ownBlock=none\/A.ownBlock≠r.ownBlock:=aY T.out.out E.out.ou (by decide);have N6:=T.out.kb K6 (by omega) vNe vNo (λi f=>aY (T.out.row i f) E.out.st (by decide)) (λi f=>aCb (HD.out i f));have UH:u7.ownBlock≠some w.heap.size:=λe=>by have:=(Y.out.lt _ e).1;omega
     have U:=nu Y.out K6 UH (aY Y.out E.out.st (by decide)) J.out;have atF:=hid (λi (f:i<k) q (h:(V i).ownBlock=some q)=>((T.out.row i f).lt q h).2);have D6:∀ i,i<k->(V i).ownBlock≠Xn.ownBlock:=λi f e=>by
      rcases Z with h | ⟨q,h,hq⟩
      ·exact HD.out i f (by rw[e,h])
      ·rw[h]at e;have:=atF.out i f q e;omega
     have s:u7.ownBlock=none\/u7.ownBlock≠Xn.ownBlock:=by
      rcases J.out with h | h
      ·exact aCa h
      ·refine aCb λe=>?_;rcases Z with P | ⟨q,P,hq⟩
       ·exact h (by rw[e,P])
       ·rw[P]at e;have:=(Y.out.lt q e).2;omega
     have jV:=hid (KA fH.out K6 fH.out.size (aB2 _) (λq h=>by have:=(E.out.st.lt q h).1;omega) (λq h=>by have:=(E.out.ou.lt q h).1;omega));have vz:=K6.size;have F6:=hid FM6;have N6:=hid N6;have U:=hid U;have D6:=hid D6;have s:=hid s;have HE6:=hid N;have HU6:=hid hu6;have hj6:j<M.length:=by
      obtain⟨_,u1,_,O,_⟩:=N.ok xs.length (by simp);rw[dV]at O;exact(aB9.1 O).1
     have azw:=rC.out M _ N;clear FM6 K6 Z nE N hu6 E T Y fH K L HD J vNe vNo I S LX;obtain⟨n,o,rfl⟩:=ak U.out;have nJ:=hid (λq h=>(U.out.lt q h).1);go_wp2_with (at_builtin;go_must (refine aCE _ rfl (.tmp 63) (.tmp 65) 22 rfl W0.heap.size 3 i0 (.int .i64 0) 1 8 Tryz.underlying22 f aT aP aO rfl (by decide) _ l (aI (xs.drop (8*k))) rfl (U.out.alloc _) ⟨w6.heap.size,0,none⟩ 1 1 [.int .i64 (j:Nat)] rfl rfl (dH w6 [.int .i64 (j:Nat)] _) (by intro y hy;simp at hy;rcases hy with rfl;rfl) (by decide) (by unfold maxLen;omega) (by omega) (by simp;omega) (w6.heap.size+1) (by simp) ?_));intro G cc w7 g a v qj;have Q:=(aB4 w6.heap.size w6).alloc (aB2 _) (.cells #[.int .i64 (j:Nat)] 3);have uz:w6.heap.size<=w7.heap.size:=by
      have:=a.size;simp at this;omega
     have amw:(Value.slice n l o).ownBlock≠some w.heap.size:=UH;have F7:=hid ((F6.out.below Q).grown (U.out.alloc (.cells #[.int .i64 (j:Nat)] 3)) a amw (by decide) (by decide) (by
      rcases s.out with h | h
      ·rw[h];cases Xn.ownBlock <;> simp
      ·exact aCb λe=>h e.symm))
     have hVL:∀ i,i<k->(V i).ownBlock=none\/(V i).ownBlock≠(Value.slice n l o).ownBlock:=λi f=>by
      cases hv:(V i).ownBlock with
      | none=>exact aCa rfl
      | some q=>
       refine aCb λe=>?_;have h1:=nJ.out q e.symm;have P:=Dc.out i f q hv;omega
     have N7:=((N6.out.keeps Q).xk a (aY (N6.out.keeps Q).out (U.out.alloc (.cells #[.int .i64 (j:Nat)] 3)) (by decide)) hVL);have N7:Hid (fZ w7 (w.heap.size+1) 22 3 A k V (λq=>aI (mO (xs++[j]) q))):=hid ⟨N7.out,λi f=>by
      rw[J9 (by omega)];exact N7.row i f⟩
     have L7:Hid (w7.ownsRow W0.heap.size 3 1 (.slice (some ⟨G,0,none⟩) (l+1) cc) (l+1) (aI ((xs++[j]).drop (8*k)))):=hid (by
      rw[List.drop_append_of_le_length (by omega),show aI (xs.drop (8*k)++[j])=aI (xs.drop (8*k))++[.int .i64 (j:Nat)] by simp[aI]];exact g)
     have LO7:Hid ((Value.slice (some ⟨G,0,none⟩) (l+1) cc).ownBlock=none\/(Value.slice (some ⟨G,0,none⟩) (l+1) cc).ownBlock≠Xn.ownBlock):=hid (aCb λe=>by
      have e2:Xn.ownBlock=some G:=e.symm;rcases v with h | h
      ·rcases s.out with P | P
       ·rw[h]at P;cases P
       ·exact P (by rw[h,e2])
      ·have:=(F6.out.ou.lt G e2).2;omega)
     have jE:=hid ((jV.out.alloc (by omega) (.cells #[.int .i64 (j:Nat)] 3)).grown a (by simp;omega) (λq h=>by have:=nJ.out q h;omega));clear g a v Q F6 N6 U s jV hVL amw UH;go_wp2_with fail;go_roundw
     case rel=>exact⟨l+1,M,xs++[j],vS6,Xn,rs6,by go_num,by omega,by rw[aCd,aCv];omega,ata,HU6,HE6,F7,N7,D6,L7,LO7,jE,by omega⟩
     case measure=>simp[intOf];omega
    ·obtain rfl:l=8:=by omega
     have Uq:=(aB9.1 S.out).1;have XZ:=rC.out us xs I.out;have t2:=d.out.t.c2;obtain⟨n,o,rfl⟩:=ak Dj.out;obtain⟨sQ,sN,rfl⟩:=ak m.out.out;have CR:w.heap.size<W3.heap.size:=d.out.t.lt;have Q:=(aB4 W3.heap.size W3).alloc (aB2 _) (.cells #[.slice n 8 o] 22);go_wp2_with (at_builtin;go_must (refine aCE _ rfl (.tmp 71) (.tmp 73) 23 rfl (w.heap.size+1) 22 i1 (.slice none 0 0) 1 24 Tryz.underlying23 jU gJ gI gG rfl (by decide) _ k ((List.range k).map V) rfl (m.out.out.alloc _) ⟨W3.heap.size,0,none⟩ 1 1 [.slice n 8 o] rfl rfl (dH W3 [.slice n 8 o] _) (by intro y hy;simp at hy;rcases hy with rfl;rfl) (by decide) (by unfold maxLen;omega) (by omega) (by simp;omega) (W3.heap.size+1) (by simp) ?_));intro G cc w7 g a v qj;have uz:W3.heap.size<=w7.heap.size:=by
      have:=a.size;simp at this;omega
     have qx:(Value.slice sQ k sN).ownBlock≠some w.heap.size:=λe=>by have:=(m.out.out.lt _ e).1;omega
     have Eg:G≠w.heap.size:=by
      rcases v with h | h
      ·exact λe=>qx (by rw[<-e];exact h)
      ·omega
     have p8:=(bQ Dj.out (show w.heap.size+1<=W0.heap.size by omega)).alloc (.cells #[.slice n 8 o] 22);have af4:(aI (mO xs k)).length=8:=by rw[ny,zg]
     rw[Te (by omega)]at p8;have F7:=(d.out.below Q).grown (m.out.out.alloc (.cells #[.slice n 8 o] 22)) a qx (by decide) (by decide) (aY (ai d.out.ou Q) (m.out.out.alloc (.cells #[.slice n 8 o] 22)) (by decide));have N7:=nL (m.out.keeps Q) (x:=.slice n 8 o) (by rw[af4];exact p8) (by decide) a g;have q2:=F7.t.c2;have f2:=F7.t.fz 2 (by omega);have D1:=hid (F7.set2 (.slice (some ⟨G,0,none⟩) (k+1) cc));have D2:=hid (N7.set (show w.heap.size<w.heap.size+1 by omega) 2 (.slice (some ⟨G,0,none⟩) (k+1) cc));have D3:Hid (∀ i,i<k+1->((λi=>if i=k then Value.slice n 8 o else V i) i).ownBlock≠r.ownBlock):=hid (λi f=>by
      by_cases c:i=k
      ·simp only[c,if_true];rcases J.out with h | h
       ·obtain⟨g9,O,_⟩:=eZ Dj.out (by omega);subst O;simp[Value.ownBlock]at h
       ·exact h
      ·simp only[c,if_false];exact HD.out i (by omega))
     have D4:=hid (((C.out.alloc C.out.size (.cells #[.slice n 8 o] 22)).grown a (by simp;omega) (λq h=>by have:=(m.out.out.lt q h).1;omega)).setCell (p:=⟨w.heap.size,2,none⟩) (aB2 _) (.slice (some ⟨G,0,none⟩) (k+1) cc));clear g a v Q d m C p8 F7 N7 qx;go_wp2_with fail;go_roundw
     case rel=>exact⟨k+1,us,xs,_,r,_,rs,_,by go_num,by omega,by omega,b,I,D1,D2,D3,D4,by simp;omega⟩
     case measure=>simp[intOf];omega
  ·obtain rfl:k=us.length:=by omega
   have FR:=hid (show BJ W0 w.heap.size us.length (dD ns aa (aL ns aa) us) (mO xs) from ⟨d.out.t.lt,⟨_,_,t0⟩,⟨_,d.out.t.c1,by
    rw[<-ZF];refine Cw (B:=w.heap.size+1) ?_;have O:=d.out.ou;rw[b]at O;rw[show (xV ns aa us).length=us.length by simp[xV]];exact O⟩,⟨_,d.out.t.c2,IR m.out⟩⟩)
   go_wp2_with fail;go_ret;exact⟨us,xs,rfl,I.out,Bb,FR.out,C.out⟩
structure uL (w:World) (B:Nat) (v:Value) (n K:Nat) (tb:Nat->Nat) (t:Nat->Nat->Bool):Prop where
 out:w.ownsRow B 132 1 v n ((List.range n).map λi=>.slice (some ⟨tb i,0,none⟩) K K)
 row:∀ i,i<n->w.ownsRow B 4 1 (.slice (some ⟨tb i,0,none⟩) K K) K (ax (t i) K K)
 sep:∀ i j,i<j->j<n->tb i≠tb j
theorem uL.keeps{w w':World}{B n K:Nat}{v:Value}{tb:Nat->Nat}{t:Nat->Nat->Bool}(h:uL w B v n K tb t)(hb:Below w.heap.size w w'):uL w' B v n K tb t:=⟨ai h.out hb,λi hi=>ai (h.row i hi) hb,h.sep⟩
theorem uL.ne{w:World}{B n K:Nat}{v:Value}{tb:Nat->Nat}{t:Nat->Nat->Bool}(h:uL w B v n K tb t){i j:Nat}(hi:i<n)(hj:j<n)(hne:i≠j):tb i≠tb j:=by
 rcases Nat.lt_or_gt_of_ne hne with c | c
 ·exact h.sep i j c hj
 ·exact λe=>h.sep j i c hi e.symm
theorem uL.at_{w:World}{B n K:Nat}{v:Value}{tb:Nat->Nat}{t:Nat->Nat->Bool}(h:uL w B v n K tb t)(hn:0<n):∃ g cap,v=.slice (some ⟨g,0,none⟩) n cap/\n<=cap/\g<w.heap.size/\B<=g/\(∀ i,i<n->w.cell? ⟨g,i,none⟩=some (.slice (some ⟨tb i,0,none⟩) K K))/\(∀ i k,i<n->k<K->w.cell? ⟨tb i,k,none⟩=some (.bool (t i k))/\w.frozen? ⟨tb i,k,none⟩=false/\tb i<w.heap.size):=by
 obtain⟨g,cap,rfl,c,b,d⟩:=Cv h.out hn;refine⟨g,cap,rfl,d,b,c,λi a=>?_,λi k a e=>⟨?_,(h.row i a).frozenAt k,((h.row i a).lt _ rfl).2⟩⟩
 ·rw[h.out.cellAt i (by omega)];simp[aCs,aCF a]
 ·rw[(h.row i a).cellAt k (by omega)];exact kV _ _ _ e
def qD(t:Nat->Nat->Bool)(i k:Nat):Nat->Nat->Bool:=λa b=>if a=i/\b=k then true else t a b
theorem uL.set{w:World}{B n K:Nat}{v:Value}{tb:Nat->Nat}{t:Nat->Nat->Bool}(h:uL w B v n K tb t){i k:Nat}(hi:i<n)(hk:k<K):uL (w.setCell ⟨tb i,k,none⟩ (.bool true)) B v n K tb (qD t i k):=by
 have g:0<n:=by omega
 refine⟨dN h.out ⟨tb i,k,none⟩ _ ?_,λj b=>?_,h.sep⟩
 ·have:=aY h.out (h.row i hi) (by decide);rcases this with a | a
  ·rw[a];simp
  ·exact a
 ·by_cases c:j=i
  ·subst c;have a:=(h.row j b).stored k (.bool true);rw[AU]at a;have e:ax (upd (t j) k true) K K=ax (qD t j k j) K K:=sH λq f=>by
    unfold upd qD;by_cases d:q=k <;> simp[d]
   rw[e]at a;exact a.1
  ·have e:ax (qD t i k j) K K=ax (t j) K K:=sH λq f=>by unfold qD;simp[c]
   rw[e];exact dN (h.row j b) ⟨tb i,k,none⟩ _ (λd=>h.ne b hi c (Option.some.inj d))
section
variable (out:Nat->Nat) (nx:Nat->Nat->Nat) (K:Nat)
structure Ns (t:Nat->Nat->Bool):Prop where
 sound:∀ i k,i<K->k<K->t i k=true->¬ jr out nx out nx i k
 base:∀ i k,i<K->k<K->out i≠out k->t i k=true
def ClT(t:Nat->Nat->Bool)(i k a:Nat):Prop:=a<8->t (nx i a) (nx k a)=true->t i k=true
end
section
variable {out:Nat->Nat} {nx:Nat->Nat->Nat} {K:Nat} {t:Nat->Nat->Bool}
theorem agO:Ns out nx K (λi k=>out i !=out k):=⟨λi k _ _ h hl=>by
 have:=hl [] (λx hx=>by simp at hx);simp only[lS]at this;rw[this]at h;simp at h,λi k _ _ h=>by simpa using h⟩
theorem amW(h:Ns out nx K t){i k a:Nat}(hc:∀ i a,i<K->a<8->nx i a<K)(hi:i<K)(hk:k<K)(ha:a<8)(ht:t (nx i a) (nx k a)=true):Ns out nx K (qD t i k):=by
 refine⟨λd e f g b j=>?_,λd e f g b=>?_⟩
 ·unfold qD at b;by_cases c:d=i/\e=k
  ·obtain⟨rfl,rfl⟩:=c;exact h.sound _ _ (hc _ a hi ha) (hc _ a hk ha) ht (AX j ha)
  ·rw[aC1 c]at b;exact h.sound d e f g b j
 ·unfold qD
  split
  ·rfl
  ·exact h.base d e f g b
theorem akd(h:Ns out nx K t)(hc:∀ i a,i<K->a<8->nx i a<K)(hcl:∀ i k a,i<K->k<K->ClT nx t i k a){i k:Nat}(hi:i<K)(hk:k<K):t i k=true↔¬ jr out nx out nx i k:=by
 refine⟨h.sound i k hi hk,λg=>?_⟩;cases e:t i k with
 | true=>rfl
 | false=>
  exfalso;have c:∀ (w:List Nat) (i k:Nat),i<K->k<K->t i k=false->pJ w->out (lS nx i w)=out (lS nx k w):=by
   intro w
   induction w with
   | nil=>
    intro i k hi hk e _;apply aCx;intro d;rw[h.base i k hi hk d]at e;cases e
   | cons a w ih=>
    intro i k hi hk e b;have f:=b a (List.mem_cons_self ..);refine ih (nx i a) (nx k a) (hc i a hi f) (hc k a hk f) ?_ (λx j=>b x (List.mem_cons_of_mem _ j));cases e2:t (nx i a) (nx k a) with
    | false=>rfl
    | true=>
     rw[hcl i k a hi hk f e2]at e;cases e
  exact g (λw b=>c w i k hi hk e b)
end
/-! ### How many are told apart -/
def cnt1(f:Nat->Bool):Nat->Nat
 | 0=>0
 | n+1=>cnt1 f n+(if f n=true then 1 else 0)
def cnt2(t:Nat->Nat->Bool)(K:Nat):Nat->Nat
 | 0=>0
 | n+1=>cnt2 t K n+cnt1 (t n) K
theorem Yo(f:Nat->Bool):∀ n,cnt1 f n<=n
 | 0=>aB2 _
 | n+1=>by rw[cnt1];have:=Yo f n;split <;> omega
theorem Ou(t:Nat->Nat->Bool)(K:Nat):∀ n,cnt2 t K n<=n*K
 | 0=>by simp[cnt2]
 | n+1=>by rw[cnt2,Nat.succ_mul];have:=Ou t K n;have:=Yo (t n) K;omega
theorem yX{f g:Nat->Bool}:∀ n,(∀ i,i<n->f i=g i)->cnt1 f n=cnt1 g n
 | 0,_=>rfl
 | n+1,h=>by rw[cnt1,cnt1,yX n (λi hi=>h i (by omega)),h n (by omega)]
theorem Vm{f g:Nat->Bool}{k:Nat}(hf:f k=false)(hg:g k=true)(he:∀ j,j≠k->g j=f j):∀ n,k<n->cnt1 g n=cnt1 f n+1
 | 0,h=>by omega
 | n+1,h=>by
  by_cases e:k=n
  ·subst e;rw[cnt1,cnt1,yX k (λi hi=>he i (by omega)),aC2 hg,aC1 (by simp[hf])]
  ·rw[cnt1,cnt1,Vm hf hg he n (by omega),he n (λh=>e h.symm)];omega
theorem MC{t u:Nat->Nat->Bool}{K:Nat}:∀ n,(∀ i,i<n->∀ k,k<K->t i k=u i k)->cnt2 t K n=cnt2 u K n
 | 0,_=>rfl
 | n+1,h=>by rw[cnt2,cnt2,MC n (λi hi=>h i (by omega)),yX K (h n (by omega))]
theorem Vl{t:Nat->Nat->Bool}{i k K:Nat}(ht:t i k=false)(hk:k<K):∀ n,i<n->cnt2 (qD t i k) K n=cnt2 t K n+1
 | 0,h=>by omega
 | n+1,h=>by
  by_cases e:i=n
  ·subst e;rw[cnt2,cnt2,MC i (λa ha b _=>by unfold qD;rw[aC1 (by omega)]),Vm (f:=t i) (g:=qD t i k i) ht (by simp[qD]) (λj hj=>by simp[qD,hj]) K hk];omega
  ·rw[cnt2,cnt2,Vl ht hk n (by omega),yX (f:=qD t i k n) (g:=t n) K (λb _=>by unfold qD;rw[aC1 (by omega)])];omega
def Y1(w:World)(g:Nat):Nat->Nat
 | 0=>0
 | n+1=>Y1 w g n+(match w.cell? ⟨g,n,none⟩ with | some (.bool true)=>1 | _=>0)
def Y0(w:World)(tb:Nat->Nat)(K:Nat):Nat->Nat
 | 0=>0
 | n+1=>Y0 w tb K n+Y1 w (tb n) K
theorem Xp{w:World}{g:Nat}{f:Nat->Bool}:∀ n,(∀ k,k<n->w.cell? ⟨g,k,none⟩=some (.bool (f k)))->Y1 w g n=cnt1 f n
 | 0,_=>rfl
 | n+1,h=>by
  rw[Y1,cnt1,Xp n (λk hk=>h k (by omega)),h n (by omega)];cases f n <;> simp
theorem Nu{w:World}{B n K:Nat}{v:Value}{tb:Nat->Nat}{t:Nat->Nat->Bool}(h:uL w B v n K tb t):∀ m,m<=n->Y0 w tb K m=cnt2 t K m
 | 0,_=>rfl
 | m+1,hm=>by
  rw[Y0,cnt2,Nu h m (by omega),Xp (f:=t m) K (λk hk=>by
   rw[(h.row m (by omega)).cellAt k (by omega)];exact kV _ _ _ hk)]
def anc(t:Nat->Nat->Bool)(l:List Nat)(i:Nat)(e:Ending):Prop:=
 (∃ j m,e=.returned (.int .i64 (j:Nat))/\l[j]?=some m/\t i m=false)\/(e=.returned (.int .i64 (-1))/\∀ m∈l,t i m=true)
theorem afG(B K i:Nat)(v vl:Value)(tb:Nat->Nat)(t:Nat->Nat->Bool)(l:List Nat)(w:World)(h:uL w B v K K tb t)(hi:i<K)(hK:K<=796594185)(hl:NR w vl l)(jI:l.length<=796594185)(hlt:∀ m∈l,m<K) :
  Calls Tryz.prog 39 #[v,vl,.int .i64 (i:Nat)] w λe w'=>anc t l i e/\∃ m,w'=w.drewN m:=by
 obtain⟨g,cap,rfl,F,O,_,b,a⟩:=h.at_ (by omega);obtain⟨P,Q,rfl,R,q⟩:=hl;have S:=hid b;have T:=hid a;have y:=hid q;have U:=hid hlt;clear b a q hlt h;generalize G:l.length=n at *;have z:=hid G;clear G;go_enter Tryz.func39,Tryz.ntmps39;go_wp2_with fail
 go_loopw [7] (λx V=>∃ k:Nat,k<=n/\x=.int .i64 k/\Hid (∀ j m,j<k->l[j]?=some m->t i m=true)/\Hid (∃ m,V=w.drewN m)) (λx _=>n - (intOf x).toNat)
 case atStart=>exact⟨0,aCg _,rfl,hid (λj m h=>by omega),hid ⟨0,rfl⟩⟩
 case round=>
  obtain⟨k,hk,rfl,H,A⟩:=hrel;rename World=>W0;have C:Hid (Below w.heap.size w W0):=hid (by
   obtain⟨m,rfl⟩:=A.out;exact aCl (aB4 _ _) m)
  have I:Hid (∀ n,∃ m,W0.drewN n=w.drewN m):=hid (λn=>by
   obtain⟨m,rfl⟩:=A.out;exact⟨m+n,by rw[World.drewN_drewN]⟩)
  by_cases d:k<n
  ·obtain⟨J,e,W,r⟩:=y.out (by omega);subst e;obtain⟨m,o⟩:∃ m,l[k]?=some m:=⟨l[k]'(by rw[z.out];exact d),aB3 (by rw[z.out];exact d)⟩;have D:=U.out m (aCJ o);have s:bZ l k=m:=by simp[bZ,List.getD,o]
   have c1:W0.cell? ⟨J,k,none⟩=some (.int .i64 (m:Nat)):=(C.out.cell (p:=⟨J,k,none⟩) W).trans (by have L:=r k d;rw[s]at L;exact L);have c2:=(C.out.cell (p:=⟨g,i,none⟩) O).trans (S.out i hi);obtain⟨M,_,X⟩:=T.out i m hi D;have N:=(C.out.cell (p:=⟨tb i,m,none⟩) X).trans M;have u:=hid o;clear r o s M;cases hv:t i m with
   | true=>
    rw[hv]at N;have Y:Hid (∀ j m,j<k+1->l[j]?=some m->t i m=true):=hid (λj Z E f=>by
     by_cases c:j=k
     ·subst c;rw[u.out]at f;cases f;exact hv
     ·exact H.out j Z (by omega) f)
    clear hv;go_wp2_with fail
    go_quiet (fail)
    go_wp2_with fail;go_roundw
    case rel=>exact⟨k+1,by omega,by go_num,Y,hid (I.out _)⟩
    case measure=>simp[intOf];omega
   | false=>
    rw[hv]at N;have HV:=hid hv;clear hv;go_wp2_with fail
    go_quiet (fail)
    go_wp2_with fail;go_ret;exact⟨aCa ⟨k,m,rfl,u.out,HV.out⟩,I.out _⟩
  ·obtain rfl:k=n:=by omega
   go_wp2_with fail;go_ret;exact⟨aCb ⟨rfl,λm o=>by
    obtain⟨j,E,e⟩:=aCK o;exact H.out j m (by rw[<-z.out];exact E) (by rw[aB3 E,e])⟩,A.out⟩
theorem aeE{w w1:World}{B n K:Nat}{v v':Value}{tb:Nat->Nat}{t:Nat->Nat->Bool}{g:Nat}(h:uL w B v n K tb t)(hx:w.ownsRow B 4 1 (.slice (some ⟨g,0,none⟩) K K) K (ax (t n) K K))(hne:∀ i,i<n->tb i≠g)(hg:w.grownBy w1 v.ownBlock)
  (hown:w1.ownsRow B 132 1 v' (n+1) (((List.range n).map λi=>.slice (some ⟨tb i,0,none⟩) K K)++[.slice (some ⟨g,0,none⟩) K K])):uL w1 B v' (n+1) K (λi=>if i=n then g else tb i) t:=by
 refine⟨?_,λi b=>?_,λi j a c=>?_⟩
 ·rw[aCT,aCM];rw[show (List.range n).map (λi=>Value.slice (some ⟨if i=n then g else tb i,0,none⟩) K K)=(List.range n).map (λi=>Value.slice (some ⟨tb i,0,none⟩) K K) from aCX (λi b=>by rw[aCQ]at b;rw[aC1 (by omega)])];simpa using hown
 ·by_cases e:i=n
  ·subst e;simp only[if_true];exact hx.kept hg (aY hx h.out (by decide))
  ·simp only[aC1 e];exact(h.row i (by omega)).kept hg (aY (h.row i (by omega)) h.out (by decide))
 ·by_cases e:j=n
  ·subst e;simp only[if_true,aC1 (show i≠j by omega)];exact hne i a
  ·simp only[aC1 e,aC1 (show i≠n by omega)];exact h.sep i j a (by omega)
structure Dn (nx:Nat->Nat->Nat) (K:Nat) (t0 t:Nat->Nat->Bool) (mv:Bool) (a b c:Nat):Prop where
 no:mv=false->t=t0/\∀ a' b' c',b'<K->(a'<a\/(a'=a/\b'<b)\/(a'=a/\b'=b/\c'<c))->ClT nx t0 a' b' c'
 yes:mv=true->cnt2 t0 K K<cnt2 t K K
theorem adC(nx:Nat->Nat->Nat)(K:Nat)(t0:Nat->Nat->Bool):Dn nx K t0 t0 false 0 0 0:=⟨λ_=>⟨rfl,λa' b' c' _ h=>by omega⟩,λh=>by cases h⟩
theorem aau{nx:Nat->Nat->Nat}{K:Nat}{t0 t:Nat->Nat->Bool}{mv:Bool}{a b c:Nat}(h:Dn nx K t0 t mv a b c)(hn:t (nx a c) (nx b c)=false):Dn nx K t0 t mv a b (c+1):=
 ⟨λe=>⟨(h.no e).1,λa' b' c' hb hl=>by
  by_cases q:a'=a/\b'=b/\c'=c
  ·obtain⟨rfl,rfl,rfl⟩:=q;rw[(h.no e).1]at hn;intro _ ht;rw[hn]at ht;cases ht
  ·exact(h.no e).2 a' b' c' hb (by omega)⟩,h.yes⟩
theorem VA{nx:Nat->Nat->Nat}{K:Nat}{t0 t:Nat->Nat->Bool}{mv:Bool}{a b c:Nat}(h:Dn nx K t0 t mv a b c)(hx:c=8\/t a b=true):Dn nx K t0 t mv a (b+1) 0:=
 ⟨λe=>⟨(h.no e).1,λa' b' c' hb hl=>by
  by_cases q:a'=a/\b'=b
  ·obtain⟨rfl,rfl⟩:=q;rcases hx with hx | hx
   ·intro hc ht;exact(h.no e).2 a' b' c' hb (by omega) hc ht
   ·rw[(h.no e).1]at hx;exact λ_ _=>hx
  ·exact(h.no e).2 a' b' c' hb (by omega)⟩,h.yes⟩
theorem akb{nx:Nat->Nat->Nat}{K:Nat}{t0 t:Nat->Nat->Bool}{mv:Bool}{a:Nat}(h:Dn nx K t0 t mv a K 0):Dn nx K t0 t mv (a+1) 0 0:=
 ⟨λe=>⟨(h.no e).1,λa' b' c' hb hl=>(h.no e).2 a' b' c' hb (by omega)⟩,h.yes⟩
theorem aka{nx:Nat->Nat->Nat}{K:Nat}{t0 t:Nat->Nat->Bool}{mv:Bool}{a b c:Nat}(h:Dn nx K t0 t mv a b c)(ha:a<K)(hb:b<K)(ht:t a b=false):Dn nx K t0 (qD t a b) true a b (c+1):=
 ⟨λe=>(by cases e),λ_=>by
  rw[Vl ht hb K ha];cases mv with
  | true=>have:=h.yes rfl;omega
  | false=>rw[(h.no rfl).1];omega⟩
theorem akc{nx:Nat->Nat->Nat}{K:Nat}{t0 t:Nat->Nat->Bool}{mv:Bool}(h:Dn nx K t0 t mv K 0 0)(e:mv=false):∀ a b c,a<K->b<K->ClT nx t a b c:=λa b c ha hb=>by
 rw[(h.no e).1];exact(h.no e).2 a b c hb (aCa ha)
def ako(K:Nat)(out:Nat->Nat)(nx:Nat->Nat->Nat)(w:World)(e:Ending)(w':World):Prop:=
 ∃ v tb t,e=.returned v/\uL w' w.heap.size v K K tb t/\(∀ i k,i<K->k<K->(t i k=true↔¬ jr out nx out nx i k))/\Below w.heap.size w w'
theorem adD(P K:Nat)(out:Nat->Nat)(xs:List Nat)(w:World)(hf:BJ w P K out (mO xs))(uC:0<K)(hK:K<=796594185)(hc:∀ i a,i<K->a<8->aZ xs i a<K) :
  Calls Tryz.prog 38 #[.pointer (some ⟨P,0,none⟩)] w (ako K out (aZ xs) w):=by
 obtain⟨aoF,atS,f0⟩:=hf.c0;obtain⟨vO,f1,CX,xY,rfl,Ef,qw⟩:=hf.c1;obtain⟨vX,f2,aoX,agH,rfl,ahq,Ba⟩:=hf.c2;have hP:=hf.lt;have Ug:((List.range K).map out).length=K:=by simp
 rw[Ug]at f1 Ef qw;obtain⟨L,rfl,Y,Fa⟩:=qw uC;obtain⟨gX,rfl,XY,PY⟩:=Ba uC;have uN:Hid (∀ x,x<K->w.cell? ⟨L,x,none⟩=some (.int .i64 (out x:Nat))):=hid (λx M=>by
  have N:=Fa x M;rw[show bZ ((List.range K).map out) x=out x by simp[bZ,List.getD,M]]at N;exact N)
 have O:Hid (∀ x,x<K->∃ Q Ch,w.cell? ⟨gX,x,none⟩=some (.slice (some ⟨Q,0,none⟩) 8 Ch)/\Q<w.heap.size/\∀ a,a<8->w.cell? ⟨Q,a,none⟩=some (.int .i64 (aZ xs x a:Nat))):=hid (λx M=>by
  obtain⟨r,hr,aoR,Ch,rfl,hcR,qR⟩:=PY x M;rw[zg]at hr hcR qR;obtain⟨Q,rfl,P8,E⟩:=qR (by omega);exact⟨Q,Ch,hr,P8,λa R=>by have N:=E a R;rw[Tf xs R]at N;exact N⟩)
 have Z:=hid hc;obtain⟨i0,hi,aT,aP,aO⟩:=info_parts Tryz.dY;obtain⟨i1,jU,gJ,gI,gG⟩:=info_parts Tryz.AZ;clear hf qw Ba Fa PY hc;generalize aZ xs=nx at *;go_enter Tryz.func38,Tryz.ntmps38;go_wp2_with fail
 go_loopw [4,5] (λv x u=>∃ (i:Nat) (tb:Nat->Nat),i<=K/\x=.int .i64 i/\Hid (uL u w.heap.size v i K tb (λi k=>out i !=out k))/\Hid (Below w.heap.size w u)) (λ_ x _=>K - (intOf x).toNat)
 case atStart=>exact⟨0,λ_=>0,aCg _,rfl,hid ⟨aCp _ _ _ _,λi h=>by omega,λi j _ h=>by omega⟩,hid (aB4 _ _)⟩
 case round=>
  obtain⟨i,tb,hik,rfl,d,l⟩:=hrel;rename World=>W0;by_cases qU:i<K
  ·have Iu:=hid (λj (hj:j<i)=>((d.out.row j hj).lt _ rfl).2);have jT:=l.out.size;go_wp2_with (at_make;go_must (refine aCI _ rfl (.tmp 22) (.tmp 22) 132 rfl W0.heap.size 4 i0 (.bool false) 1 Tryz.underlying132 hi aT aP .i64 .i64 K K K rfl rfl rfl rfl (by rw[aO];omega) (by unfold maxLen;omega) (aB2 _) ?_));intro w1 aF aQ;have eo:(madeCells #[Value.bool false] K).toList=List.replicate K (.bool false):=aCy _ _;rw[eo,<-dm (λk=>out i !=out k)]at aF;have qA:Below W0.heap.size W0 w1:=(aB4 _ _).grown aQ (aB2 _) (λk h=>by cases h);have T1:=hid (d.out.keeps qA);have O1:=hid aF;have B1:=hid qA;have aK:=hid (l.out.trans (qA.mono jT));clear aF aQ eo qA;go_wp2_with fail
   go_loopw [7] (λx u=>∃ k:Nat,k<=K/\x=.int .i64 k/\Hid (u.ownsRow W0.heap.size 4 1 (.slice (some ⟨W0.heap.size,0,none⟩) K K) K (ax (λk=>out i !=out k) K k))/\Hid (Below W0.heap.size W0 u)) (λx _=>K - (intOf x).toNat)
   case atStart=>exact⟨0,aCg _,rfl,O1,B1⟩
   case round=>
    obtain⟨k,hk,rfl,HO,S⟩:=hrel;rename World=>W1;clear T1 O1 B1 aK;by_cases T:k<K
    ·have G:=hid (l.out.trans (S.out.mono jT));have p1:=(G.out.cell (p:=⟨P,1,none⟩) hP).trans f1;have oi:=(G.out.cell (p:=⟨L,i,none⟩) Y).trans (uN.out i qU);have okk:=(G.out.cell (p:=⟨L,k,none⟩) Y).trans (uN.out k T);have own:=HO.out;have q0:=own.frozenAt k;have q1:(W1.cell? ⟨W0.heap.size,k,none⟩).isSome=true:=by
      rw[own.cellAt k (by omega)];simp[ax,T]
     obtain⟨qv,q2⟩:=aCL.1 q1;have hO:=own.stored k (.bool (out i !=out k));rw[fJ (λk=>out i !=out k)]at hO;have nI:=hid hO.1;have aM:=hid (S.out.setCell (p:=⟨W0.heap.size,k,none⟩) (aB2 _) (.bool (out i !=out k)));have hbe:((out i:Int) !=(out k:Int))=(out i !=out k):=by
      rw[Bool.eq_iff_iff,bne_iff_ne,bne_iff_ne];omega
     clear hO q1 own HO;generalize (out i !=out k)=bv at *;have KS:∀ (x o:Nat) {v:Value},x<w.heap.size->W1.cell? ⟨x,o,none⟩=some v->(W1.setCell ⟨W0.heap.size,k,none⟩ (.bool bv)).drew.cell? ⟨x,o,none⟩=some v:=λx o v M E=>by
      show (W1.setCell ⟨W0.heap.size,k,none⟩ (.bool bv)).cell? ⟨x,o,none⟩=some v;rw[aB8 _ _ _ _ (λe=>by have:=congrArg Addr.block e;simp at this;omega)];exact E
     have z1:(0:Int)<=(k:Int):=Int.natCast_nonneg _;have z2:(k:Int)<(K:Int):=by omega
     have z3:(0:Int)<=(i:Int):=Int.natCast_nonneg _;have z4:(i:Int)<(K:Int):=by omega
     go_wp2_with fail
     go_region_held3 (λw'=>w'.cell? ⟨P,1,none⟩=some (.slice (some ⟨L,0,none⟩) K xY)/\w'.cell? ⟨L,i,none⟩=some (.int .i64 (out i:Nat))/\w'.cell? ⟨L,k,none⟩=some (.int .i64 (out k:Nat)))
      (first
       | go_keep
       | exact⟨KS _ _ hP p1,KS _ _ Y oi,KS _ _ Y okk⟩)
      (fail)
     go_wp2_with fail;go_roundw
     case rel=>exact⟨k+1,by omega,by go_num,hid (ai nI.out (aCl (aB4 _ _) 1)),hid (aCl aM.out 1)⟩
     case measure=>simp[intOf];omega
    ·obtain rfl:k=K:=by omega
     have U:=hid (d.out.keeps S.out);have OR:=hid (bQ HO.out jT);have G:=hid (l.out.trans (S.out.mono jT));have hs1:=S.out.size;obtain⟨Yv,V,rfl⟩:=ak U.out.out;have lq:=hid (λq h=>(U.out.out.lt q h).1);have b6:=(aB4 W1.heap.size W1).alloc (aB2 _) (.cells #[.slice (some ⟨W0.heap.size,0,none⟩) k k] 132);go_wp2_with (at_builtin;go_must (refine aCE _ rfl (.tmp 47) (.tmp 49) 77 rfl w.heap.size 132 i1 (.slice none 0 0) 1 24 Tryz.underlying77 jU gJ gI gG rfl (by decide) _ i _ rfl (U.out.out.alloc _) ⟨W1.heap.size,0,none⟩ 1 1 [.slice (some ⟨W0.heap.size,0,none⟩) k k] rfl rfl (dH W1 [.slice (some ⟨W0.heap.size,0,none⟩) k k] _) (by intro y hy;simp at hy;rcases hy with rfl;rfl) (by decide) (by unfold maxLen;omega) (by omega) (by simp;omega) (W1.heap.size+1) (by simp) ?_));intro gg cc w7 H A hat qj;have D1:=hid (aeE (U.out.keeps b6) (ai OR.out b6) (λj hj=>by have:=Iu.out j hj;omega) A H);have D2:=hid ((G.out.alloc G.out.size (.cells #[.slice (some ⟨W0.heap.size,0,none⟩) k k] 132)).grown A (by have:=G.out.size;simp;omega) (λq h=>lq.out q h));clear H A hat b6 U OR G;go_wp2_with fail;go_roundw
     case rel=>exact⟨i+1,_,by omega,by go_num,D1,D2⟩
     case measure=>simp[intOf];omega
  ·obtain rfl:i=K:=by omega
   have AP0:Hid (Ns out nx i (λi k=>out i !=out k)):=hid agO;generalize hTE:(λi k=>out i !=out k)=t0 at *;clear hTE;obtain⟨Yv,V,rfl⟩:=ak d.out.out;go_wp2_with fail
   go_loopw [8] (λm u=>∃ (n:Bool) (t:Nat->Nat->Bool),m=.bool n/\Hid (uL u w.heap.size (.slice Yv i V) i i tb t)/\Hid (Ns out nx i t)/\Hid (n=false->∀ a b c,a<i->b<i->ClT nx t a b c)/\Hid (Below w.heap.size w u)) (λm u=>2*(i*i - Y0 u tb i i)+uW m)
   case atStart=>exact⟨true,t0,rfl,d,AP0,hid (λh=>by cases h),l⟩
   case round=>
    obtain⟨n,t,rfl,d,B,JQ,l⟩:=hrel;rename World=>W0;cases n with
    | false=>
     have FIN:=hid (λa b (R:a<i) (hb:b<i)=>akd B.out Z.out (JQ.out rfl) R hb);go_wp2_with fail;go_ret;exact⟨_,tb,t,rfl,d.out,FIN.out,l.out⟩
    | true=>
     have QZ:=hid (Nu d.out i (aB2 _));obtain⟨g,azJ,e9,ay0,hg9,hB9,_,_⟩:=d.out.at_ uC;cases e9;go_wp2_with fail
     go_loopw [8,9] (λm x u=>∃ (a:Nat) (n:Bool) (f:Nat->Nat->Bool),a<=i/\x=.int .i64 a/\m=.bool n/\Hid (uL u w.heap.size (.slice (some ⟨g,0,none⟩) i V) i i tb f)/\Hid (Ns out nx i f)/\Hid (Dn nx i t f n a 0 0)/\Hid (Below w.heap.size w u)) (λ_ x _=>i - (intOf x).toNat)
     case atStart=>exact⟨0,false,t,aCg _,rfl,rfl,d,B,hid (adC nx i t),l⟩
     case round=>
      obtain⟨a,n,f,R,rfl,rfl,d,B,C,l⟩:=hrel;rename World=>W1;by_cases F:a<i
      ·go_wp2_with fail
       go_loopw [8,10] (λm x u=>∃ (b:Nat) (n:Bool) (f:Nat->Nat->Bool),b<=i/\x=.int .i64 b/\m=.bool n/\Hid (uL u w.heap.size (.slice (some ⟨g,0,none⟩) i V) i i tb f)/\Hid (Ns out nx i f)/\Hid (Dn nx i t f n a b 0)/\Hid (Below w.heap.size w u)) (λ_ x _=>i - (intOf x).toNat)
       case atStart=>exact⟨0,n,f,aCg _,rfl,rfl,d,B,C,l⟩
       case round=>
        obtain⟨b,n,f,hb,rfl,rfl,d,B,C,l⟩:=hrel;rename World=>W2;by_cases I:b<i
        ·go_wp2_with fail
         go_loopw [8,11] (λm x u=>∃ (c:Nat) (n:Bool) (f:Nat->Nat->Bool),c<=8/\x=.int .i64 c/\m=.bool n/\Hid (uL u w.heap.size (.slice (some ⟨g,0,none⟩) i V) i i tb f)/\Hid (Ns out nx i f)/\Hid (Dn nx i t f n a b c)/\Hid (Below w.heap.size w u)) (λ_ x _=>8 - (intOf x).toNat)
         case atStart=>exact⟨0,n,f,by omega,rfl,rfl,d,B,C,l⟩
         case round=>
          obtain⟨c,n,f,hc,rfl,rfl,d,B,C,l⟩:=hrel;rename World=>W3;obtain⟨g2,mQ,e2,ay1,oO,hB2,z,s⟩:=d.out.at_ uC;cases e2;have r1:=z a F;obtain⟨k1,k2,k3⟩:=s a b F I;by_cases D:c<8
          ·cases E:f a b with
           | true=>
            rw[E]at k1;have J:=hid (VA C.out (aCb E));clear E z s;go_wp2_with fail;go_roundw
            case rel=>exact⟨b+1,n,f,by omega,by go_num,rfl,d,B,J,l⟩
            case measure=>simp[intOf];omega
           | false=>
            obtain⟨gR1,cR1,x1,atw,x2⟩:=O.out a F;obtain⟨gR2,cR2,y1,atv,y2⟩:=O.out b I;have f2':=(l.out.cell (p:=⟨P,2,none⟩) hP).trans f2;have Ji:=(l.out.cell (p:=⟨gX,a,none⟩) XY).trans x1;have KR:=(l.out.cell (p:=⟨gR1,c,none⟩) atw).trans (x2 c D);have y1':=(l.out.cell (p:=⟨gX,b,none⟩) XY).trans y1;have y2':=(l.out.cell (p:=⟨gR2,c,none⟩) atv).trans (y2 c D);have W:=Z.out a c F D;have hyK:=Z.out b c I D;have r2:=z (nx a c) W;have m1:=(s (nx a c) (nx b c) W hyK).1;have YF:=hid (λh=>aau C.out (c:=c) h);have YE:=hid (aka C.out F I E);have Q6:=hid (λh=>amW B.out Z.out F I D h);have M4:=hid (d.out.set F I);rw[E]at k1;clear x1 x2 y1 y2 z s E;generalize nx a c=x at *;generalize nx b c=y at *;have kk1:∀ m,(W3.drewN m).cell? ⟨tb a,b,none⟩=some (.bool false):=λm=>k1;have kk2:∀ m,(W3.drewN m).frozen? ⟨tb a,b,none⟩=false:=λm=>k2;have kr1:∀ m,(W3.drewN m).cell? ⟨g,a,none⟩=some (.slice (some ⟨tb a,0,none⟩) i i):=λm=>r1;cases hm:f x y with
            | false=>
             rw[hm]at m1;have J:=hid (YF.out hm);clear hm YE Q6 M4;go_wp2_with fail
             go_quiet (fail)
             go_wp2_with fail;go_roundw
             case rel=>
              have bq:=aCl (aB4 W3.heap.size W3) nq;exact⟨c+1,n,f,by omega,by go_num,rfl,hid (d.out.keeps bq),B,J,hid (aCl l.out nq)⟩
             case measure=>simp[intOf];omega
            | true=>
             rw[hm]at m1;have rZ:=hid (Q6.out hm);clear hm YF Q6;go_wp2_with fail
             go_quiet (fail)
             have j1:=kk1 nq;have j2:=kk2 nq;have j3:=kr1 nq;go_wp2_with fail;go_roundw
             case rel=>
              have bq:=aCl (aB4 W3.heap.size W3) nq;exact⟨c+1,true,qD f a b,by omega,by go_num,rfl,hid ((d.out.keeps bq).set F I),rZ,YE,hid ((aCl l.out nq).setCell (p:=⟨tb a,b,none⟩) ((d.out.row a F).lt _ rfl).1 _)⟩
             case measure=>simp[intOf];omega
          ·obtain rfl:c=8:=by omega
           have J:=hid (VA C.out (aCa rfl));clear z s;go_wp2_with fail;go_roundw
           case rel=>exact⟨b+1,n,f,by omega,by go_num,rfl,d,B,J,l⟩
           case measure=>simp[intOf];omega
        ·obtain rfl:b=i:=by omega
         have J:=hid (akb C.out);go_wp2_with fail;go_roundw
         case rel=>exact⟨a+1,n,f,by omega,by go_num,rfl,d,B,J,l⟩
         case measure=>simp[intOf];omega
      ·obtain rfl:a=i:=by omega
       have auI:=hid (akc C.out);have HTE:=hid (Nu d.out a (aB2 _));have h1:=Ou f a a;have h2:=Ou t a a;have X:=hid C.out;go_wp2_with fail;go_roundw
       case rel=>exact⟨n,f,rfl,d,B,auI,l⟩
       case measure=>
        rw[HTE.out,QZ.out];cases n with
        | false=>
         rw[(X.out.no rfl).1];simp[uW]
        | true=>
         have:=X.out.yes rfl;simp only[uW];omega
