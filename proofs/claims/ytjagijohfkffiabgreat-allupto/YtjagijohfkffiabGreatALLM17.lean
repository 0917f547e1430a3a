import Derived.Test.YtjagijohfkffiabGreatALLM16
set_option maxHeartbeats 16000000
set_option maxRecDepth 100000
set_option linter.unusedSimpArgs false
namespace Go.Proofs.YtjagijohfkffiabGreat
set_option linter.unusedVariables false
def rR(s a b:Bool):Prop:=if s=true then (a=true->b=true) else (b=true->a=true)
theorem Kg(s a:Bool):rR s a a:=by unfold rR;split <;> exact id
theorem ak9{s a b:Bool}(h:rR s a b)(k:rR s b a):a=b:=by
 unfold rR at h k;cases s <;> cases a <;> cases b <;> simp_all
theorem LH{s a b a' b':Bool}(h:rR s a a')(k:rR s b b'):rR s (a||b) (a'||b'):=by
 unfold rR at *;cases s <;> cases a <;> cases b <;> cases a' <;> cases b' <;> simp_all
theorem IY{s a b a' b':Bool}(h:rR s a a')(k:rR s b b'):rR s (a&&b) (a'&&b'):=by
 unfold rR at *;cases s <;> cases a <;> cases b <;> cases a' <;> cases b' <;> simp_all
theorem ajI{s a a':Bool}(h:rR (!s) a a'):rR s (!a) (!a'):=by
 unfold rR at *;cases s <;> cases a <;> cases a' <;> simp_all
def yG(op:Nat):Bool:=op==70||op==71||op==85||op==82||op==88
def jF:Nat->List Nd->List Nat
 | _,[]=>[]
 | i,nd::ms=>(if yG nd.op=true then [if nd.op=88 then nd.l else i] else [])++jF (i+1) ms
theorem Tq:∀ (ms:List Nd) (i j:Nat) (nd:Nd),ms[j]?=some nd->yG nd.op=true->(if nd.op=88 then nd.l else i+j)∈jF i ms
 | [],i,j,nd,h,_=>by simp at h
 | n0::ms,i,j,nd,h,ht=>by
  rw[jF,aCG];cases j with
  | zero=>
   simp at h;subst h
   left
   rw[aC2 ht];simp
  | succ j=>
   right
   have:=Tq ms (i+1) j nd (by simpa using h) ht;rwa [show i+1+j=i+(j+1) by omega]at this
def yY(σ:Nat->Bool)(ns:List Nd):Prop:=∀ i nd,ns[i]?=some nd->Il σ i nd
def LeR(ns:List Nd)(σ:Nat->Bool)(N N':Nat):Prop:=∀ k,k∈jF 0 ns->rR (σ k) (N.testBit k) (N'.testBit k)
theorem Vu{ns:List Nd}(hg:Good ns){σ:Nat->Bool}(hs:yY σ ns){x N N':Nat}(hr:LeR ns σ N N'):∀ k,k<ns.length->rR (σ k) ((gF ns x N).testBit k) ((gF ns x N').testBit k):=by
 have f:∀ n k,k<n->k<ns.length->rR (σ k) ((gF ns x N).testBit k) ((gF ns x N').testBit k):=by
  intro n
  induction n with
  | zero=>intro k h;omega
  | succ n ih=>
   intro k g o;obtain⟨b,c⟩:∃ b,ns[k]?=some b:=⟨ns[k],aB3 o⟩;have i:=kH hg x N k b c;have j:=kH hg x N' k b c;simp only[tb]at i j;rw[i,j];have m:=hs k b c;have rel:=λp=>hr _ (Tq ns 0 k b c p);rcases hg.wf k b c with⟨h,_,_⟩ | ⟨h,hl,_⟩ | ⟨h,hl,fV⟩
   ·simp only[bG,aCN,beq_iff_eq]at h;rcases h with(((h | h) | h) | h) | h <;> simp only[bg,h] <;> exact Kg _ _
   ·have d:=m.1 h;have a:=ih b.l (by omega) (by omega);rw[d]at a;simp only[eF,aCN,beq_iff_eq]at h;rcases h with((h | h) | h) | h
    ·rw[aC2 h]at a;simp only[bg,h];exact ajI a
    ·rw[aC1 (by omega)]at d;have r1:=rel (by rw[h];decide);rw[aC2 h,d]at r1;simp only[bg,h];exact r1
    ·rw[aC1 (by omega)]at a;have r1:=rel (by rw[h];decide);rw[aC1 (by omega),aCw]at r1;simp only[bg,h];exact LH a r1
    ·rw[aC1 (by omega)]at a;have r1:=rel (by rw[h];decide);rw[aC1 (by omega),aCw]at r1;simp only[bg,h];exact IY a r1
   ·obtain⟨d,q⟩:=m.2 h;have a:=ih b.l (by omega) (by omega);have e:=ih b.r (by omega) (by omega);rw[d]at a;rw[q]at e;simp only[bU,aCN,beq_iff_eq]at h;rcases h with((h | h) | h) | h
    ·simp only[bg,h];exact IY a e
    ·simp only[bg,h];exact LH a e
    ·have r1:=rel (by rw[h];decide);rw[aC1 (by omega),aCw]at r1;simp only[bg,h];exact LH e (IY a r1)
    ·have r1:=rel (by rw[h];decide);rw[aC1 (by omega),aCw]at r1;simp only[bg,h];exact IY e (LH a r1)
 exact λk g=>f (k+1) k (by omega) g
theorem XB{ns:List Nd}(hg:Good ns):∀ k∈jF 0 ns,k<ns.length:=by
 have c:∀ (ms:List Nd) (i:Nat),(∀ j b,ms[j]?=some b->b.l<ns.length/\i+j<ns.length)->∀ k∈jF i ms,k<ns.length:=by
  intro ms
  induction ms with
  | nil=>intro i _ k a;simp[jF]at a
  | cons b ms ih=>
   intro i h k a;rw[jF,aCG]at a;rcases a with a | a
   ·split at a
    ·simp at a;obtain⟨d,e⟩:=h 0 b rfl;subst a
     split <;> omega
    ·simp at a
   ·exact ih (i+1) (λj n f=>by
     obtain⟨d,e⟩:=h (j+1) n (by simpa using f);exact⟨d,by omega⟩) k a
 refine c ns 0 (λj b f=>?_);obtain⟨d,e,_⟩:=nR hg.wf f;exact⟨e,by omega⟩
theorem Bu{ns:List Nd}(hg:Good ns){σ:Nat->Bool}(hs:yY σ ns){N N':Nat}(hr:LeR ns σ N N'):∀ (u:List Nat),u≠[]->∀ k,k<ns.length->rR (σ k) ((back ns u N).testBit k) ((back ns u N').testBit k)
 | [],h,_,_=>absurd rfl h
 | [a],_,k,hk=>Vu hg hs hr k hk
 | a::b::u,_,k,hk=>Vu hg hs (λj hj=>Bu hg hs hr (b::u) (by simp) j (XB hg j hj)) k hk
theorem Vo(S:Nat->Bool){k:Nat}(h:k<=8):dM S k<2 ^ k:=by
 refine Nat.lt_pow_two_of_testBit _ λi b=>?_;by_cases a:i<8
 ·rw[tX S k h i a,aC1 (by omega)]
 ·exact Nat.testBit_lt_two_pow (aCq (uG S k h) (by rw[show (256:Nat)=2 ^ 8 by rfl];exact Nat.pow_le_pow_right (by omega) (by omega)))
section
variable {ns:List Nd} (hg:Good ns) {σ:Nat->Bool} (hs:yY σ ns)
def vw(ns:List Nd)(σ:Nat->Bool)(b:Nat):Nat:=dM (λk=>decide (k∈jF 0 ns)&&(b.testBit ((jF 0 ns).idxOf k)==σ k)) ns.length
def pj(ns:List Nd)(σ:Nat->Bool)(N:Nat):Nat:=dM (λi=>N.testBit ((jF 0 ns).getD i 0)==σ ((jF 0 ns).getD i 0)) 6
theorem RP{ns:List Nd}(hg:Good ns)(σ:Nat->Bool)(b:Nat){k:Nat}(hk:k∈jF 0 ns):(vw ns σ b).testBit k=(b.testBit ((jF 0 ns).idxOf k)==σ k):=by
 have a:=hg.le;have c:=XB hg k hk;unfold vw;rw[tX _ _ a k (by omega),aC2 c];simp[hk]
theorem ahf{ns:List Nd}(hg:Good ns)(h6:(jF 0 ns).length<=6)(σ:Nat->Bool)(N:Nat){k:Nat}(hk:k∈jF 0 ns):(vw ns σ (pj ns σ N)).testBit k=N.testBit k:=by
 have a:=List.idxOf_lt_length_of_mem hk;rw[RP hg σ _ hk];unfold pj;rw[tX _ 6 (by omega) _ (by omega),aC2 (by omega)];have:(jF 0 ns).getD ((jF 0 ns).idxOf k) 0=k:=by
  rw[List.getD,aB3 a];simp
 rw[this];cases N.testBit k <;> cases σ k <;> rfl
def Qf(ns:List Nd)(σ:Nat->Bool)(u:List Nat):Nat->Bool:=λb=>(back ns u (vw ns σ b)).testBit (ns.length - 1)
theorem Ei{ns:List Nd}(hg:Good ns){σ:Nat->Bool}(hs:yY σ ns)(ht:σ (ns.length - 1)=true)(h6:(jF 0 ns).length<=6){u:List Nat}(hu:u≠[]):vY 6 (Qf ns σ u):=by
 intro a b g h c e;have i:=hg.pos;have f:LeR ns σ (vw ns σ a) (vw ns σ b):=λk d=>by
  rw[RP hg σ a d,RP hg σ b d];have:=c ((jF 0 ns).idxOf k);unfold rR;cases σ k <;> cases h1:a.testBit ((jF 0 ns).idxOf k) <;> cases h2:b.testBit ((jF 0 ns).idxOf k) <;> simp_all
 have:=Bu hg hs f u hu (ns.length - 1) (by omega);rw[ht]at this;unfold rR at this;rw[aC2 rfl]at this;exact this e
theorem UG{ns:List Nd}(hg:Good ns){σ:Nat->Bool}(hs:yY σ ns)(h6:(jF 0 ns).length<=6){u:List Nat}(hu:u≠[])(N:Nat):Qf ns σ u (pj ns σ N)=(back ns u N).testBit (ns.length - 1):=by
 have b:=hg.pos;unfold Qf;refine ak9 (s:=σ (ns.length - 1)) ?_ ?_
 ·exact Bu hg hs (λk a=>by rw[ahf hg h6 σ N a];exact Kg _ _) u hu _ (by omega)
 ·exact Bu hg hs (λk a=>by rw[ahf hg h6 σ N a];exact Kg _ _) u hu _ (by omega)
end
theorem aj0{ns:List Nd}(hg:Good ns)(ht:Seg 0 ns)(h6:(jF 0 ns).length<=6){aa:Nat->Bool}(hl:jf ns (aW ns ns.length) aa)(us:List (List Nat))(hu:∀ u∈us,u≠[]/\∀ x∈u,x<8)
  (hd:(us.map λu=>gv (dR ns aa (aL ns aa) u)).Nodup):us.length<=796594176:=by
 obtain⟨σ,f,g⟩:=Sm ht true;have a:yY σ ns:=λi h j=>by have:=g i h j;rwa [aCw]at this
 rw[aCw]at f;have b:(us.map λu=>tab 6 (Qf ns σ u)).Nodup:=by
  rw[List.nodup_iff_pairwise_ne,List.pairwise_map]at hd ⊢;refine List.Pairwise.imp_of_mem ?_ hd;intro u v c k d e;refine d (UK λN q=>?_);obtain⟨l,m⟩:=hu u c;obtain⟨n,o⟩:=hu v k;rw[Bool.eq_iff_iff,oZ hg hl u m,oZ hg hl v o,<-UG hg a h6 l,<-UG hg a h6 n];have:pj ns σ N<2 ^ 6:=Vo _ (by omega);rw[Xr e this]
 have:=AV _ m6 b (λx p=>by
  obtain⟨u,c,rfl⟩:=aCU.1 p;exact abP (Ei hg a f h6 (hu u c).1))
 rw[abS]at this;simpa using this
theorem J8:∀ (ms:List Nd) (i:Nat),(jF i ms).length=ms.countP λnd=>yG nd.op
 | [],_=>rfl
 | nd::ms,i=>by
  rw[jF,aCd,J8 ms (i+1),List.countP_cons];cases yG nd.op <;> simp <;> omega
def Lv(nd:Nd):Bool:=eF nd.op
def zO(nd:Nd):Bool:=bU nd.op
def Gc(nd:Nd):Bool:=yG nd.op
def Cx(nd:Nd):Bool:=nd.op==33
def pu(p:Nd->Bool)(ms:List Nd):Nat:=ms.countP p
theorem mh(p:Nd->Bool)(ms:List Nd)(nd:Nd):pu p (ms++[nd])=pu p ms+(if p nd=true then 1 else 0):=by unfold pu;rw[List.countP_append,List.countP_singleton]
theorem Ev(p:Nd->Bool)(ms ls:List Nd):pu p (ms++ls)=pu p ms+pu p ls:=by unfold pu;rw[List.countP_append]
theorem Jz{α:Type}(p:α->Bool):∀ l:List α,(l.filter p).length+(l.filter λx=>!p x).length=l.length
 | []=>rfl
 | x::l=>by
  have:=Jz p l;cases h:p x <;> simp[h] <;> omega
theorem Ld{b:Nat}{ms:List Nd}(h:Seg b ms):ms.length=2*pu zO ms+1+pu Lv ms/\pu Gc ms+pu Cx ms<=pu Lv ms+pu zO ms:=by
 induction h using Ct with
 | leaf b op ho=>
  simp only[bG,aCN,beq_iff_eq]at ho;rcases ho with(((h | h) | h) | h) | h <;> subst h <;> decide
 | one b op ms ho hs ih=>
  obtain⟨a,c⟩:=ih;rw[mh,mh,mh,mh,aCd,aCv];simp only[eF,aCN,beq_iff_eq]at ho;rcases ho with((h | h) | h) | h <;> subst h <;> simp[Lv,zO,Gc,Cx,eF,bU,yG] <;> omega
 | two b op ms ls ho a c ih1 XP=>
  obtain⟨d,e⟩:=ih1;obtain⟨f,g⟩:=XP;rw[mh,mh,mh,mh,Ev,Ev,Ev,Ev,aCd,aCd,aCv];simp only[bU,aCN,beq_iff_eq]at ho;rcases ho with((h | h) | h) | h <;> subst h <;> simp[Lv,zO,Gc,Cx,eF,bU,yG] <;> omega
theorem abf{b:Nat}{ms:List Nd}(h:Seg b ms):pu zO ms=0->pu Cx ms=0->∀ i nd,ms[i]?=some nd->(i=0/\bG nd.op=true)\/(0<i/\eF nd.op=true/\nd.op≠33/\nd.l=b+i - 1/\nd.r=0):=by
 induction h using Ct with
 | leaf b op ho=>
  intro _ _ i nd a;cases i with
  | zero=>simp at a;subst a;exact aCa ⟨rfl,ho⟩
  | succ i=>simp at a
 | one b op ms ho hs ih=>
  intro c d i nd a;have f:=wJ hs;rw[mh]at c d;by_cases e:i<ms.length
  ·rw[aCh e]at a;exact ih (by omega) (by omega) i nd a
  ·rw[aCi (by omega)]at a;have g:i=ms.length:=by
    have:=(aB9.1 a).1;simp at this;omega
   subst g;simp at a;subst a;refine aCb ⟨f,ho,λe=>?_,rfl,rfl⟩;dsimp only at e;rw[e]at d;simp[Cx]at d
 | two b op ms ls ho d h2 ih1 XP=>
  intro c;rw[mh]at c;simp[zO,ho]at c
theorem adr:∀ (ms:List Nd),(∀ i nd,ms[i]?=some nd->(i=0/\bG nd.op=true/\nd.l=0/\nd.r=0)\/(0<i/\eF nd.op=true/\nd.l=i - 1/\nd.r=0))->0<ms.length->Seg 0 ms:=by
 intro ms;generalize c:ms.length=n
 induction n generalizing ms with
 | zero=>intro _ h;omega
 | succ n ih=>
  intro h _;obtain⟨a,nd,rfl⟩:∃ a nd,ms=a++[nd]:=⟨ms.dropLast,ms.getLast (by intro e;rw[e]at c;simp at c),(List.dropLast_concat_getLast _).symm⟩;rw[aCd,aCv]at c;have b:a.length=n:=by omega
  have d:=h n nd (by rw[aCi (by omega),b];simp);by_cases e:n=0
  ·subst e;have:a=[]:=List.eq_nil_of_length_eq_zero b;subst this;rcases d with⟨_,h1,h2,h3⟩ | ⟨h1,_⟩
   ·obtain⟨op,l,r⟩:=nd;dsimp only at h1 h2 h3;subst h2;subst h3;exact Seg.leaf 0 op h1
   ·omega
  ·have g:=ih a b (λi m f=>h i m (by rw[aCh (aB9.1 f).1];exact f)) (by omega);rcases d with⟨h1,_⟩ | ⟨_,h1,h2,h3⟩
   ·omega
   ·obtain⟨op,l,r⟩:=nd;dsimp only at h1 h2 h3;subst h2;subst h3;have:=Seg.one 0 op a h1 g;rwa [b,aCw]at this
theorem Qm{ns:List Nd}(hg:Good ns){m:Nat}(h0:0<m)(hm:m<=ns.length):Good (ns.take m):=by
 have:=hg.le;refine⟨by rw[List.length_take];omega,by rw[List.length_take];omega,λi b a=>?_⟩;have c:=(aB9.1 a).1;rw[List.length_take]at c;rw[List.getElem?_take_of_lt (by omega)]at a;exact hg.wf i b a
theorem QF{ns:List Nd}(hg:Good ns){m:Nat}(h0:0<m)(hm:m<=ns.length)(N:Nat):∀ u,dU m (tb (back ns u N)) (tb (back (ns.take m) u N))
 | []=>dU.refl _ _
 | a::u=>by
  have hl:(ns.take m).length=m:=by rw[List.length_take];omega
  have d:=QF hg h0 hm N u;have b:Step (ns.take m) a (tb (gF ns a (back ns u N))) (tb (back ns u N)):=λk e c=>by
   have f:=(aB9.1 c).1;rw[List.getElem?_take_of_lt (by omega)]at c;exact kH hg a _ k e c
  have:=Vv (Qm hg h0 hm) b (N:=back (ns.take m) u N) (by rw[hl];exact d.symm);rw[hl]at this;exact this.symm
def PH(ns:List Nd)(σ:Nat->Bool):List Nat->Nat->Bool
 | [],_=>false
 | a::u,b=>Qf ns σ (a::u) b||PH ns σ u b
def KH(ns:List Nd)(σ:Nat->Bool):List Nat->Nat->Bool
 | [],_=>true
 | a::u,b=>Qf ns σ (a::u) b&&KH ns σ u b
theorem Tc{ns:List Nd}(hg:Good ns){σ:Nat->Bool}(hs:yY σ ns)(ht:σ (ns.length - 1)=true)(h6:(jF 0 ns).length<=6):∀ u,vY 6 (PH ns σ u)
 | []=>λa b _ _ _ h=>by simp[PH]at h
 | a::u=>λx y hx hy hsub h=>by
  rw[PH,aCN]at h ⊢;exact h.imp (Ei hg hs ht h6 (by simp) x y hx hy hsub) (Tc hg hs ht h6 u x y hx hy hsub)
theorem QI{ns:List Nd}(hg:Good ns){σ:Nat->Bool}(hs:yY σ ns)(ht:σ (ns.length - 1)=true)(h6:(jF 0 ns).length<=6):∀ u,vY 6 (KH ns σ u)
 | []=>λa b _ _ _ h=>rfl
 | a::u=>λx y hx hy hsub h=>by
  rw[KH,aCH]at h ⊢;exact⟨Ei hg hs ht h6 (by simp) x y hx hy hsub h.1,QI hg hs ht h6 u x y hx hy hsub h.2⟩
theorem Vd{ns:List Nd}(hg:Good ns){aa:Nat->Bool}(hl:jf ns (aW ns ns.length) aa)(us:List (List Nat))(hu:∀ u∈us,∀ x∈u,x<8)
  (hd:(us.map λu=>gv (dR ns aa (aL ns aa) u)).Nodup) (F:List Nat->Nat->Bool) (hF:∀ u∈us,vY 6 (F u)) (P:Nat->Nat) (hP:∀ N,P N<2 ^ 6) (C:Nat->Bool->Bool)
  (hC:∀ u∈us,∀ N,(back ns u N).testBit (ns.length - 1)=C N (F u (P N))):us.length<=796594176:=by
 have b:(us.map λu=>tab 6 (F u)).Nodup:=by
  rw[List.nodup_iff_pairwise_ne,List.pairwise_map]at hd ⊢;refine List.Pairwise.imp_of_mem ?_ hd;intro u v a d c e;refine c (UK λN g=>?_);rw[Bool.eq_iff_iff,oZ hg hl u (hu u a),oZ hg hl v (hu v d),hC u a,hC v d,Xr e (hP N)]
 have:=AV _ m6 b (λx f=>by
  obtain⟨u,a,rfl⟩:=aCU.1 f;exact abP (hF u a))
 rw[abS]at this;simpa using this
theorem ajZ{ns:List Nd}(hg:Good ns)(ht:Seg 0 ns){aa:Nat->Bool}(hl:jf ns (aW ns ns.length) aa)(us:List (List Nat))(hu:∀ u∈us,2<=u.length/\∀ x∈u,x<8)
  (hd:(us.map λu=>gv (dR ns aa (aL ns aa) u)).Nodup):us.length<=796594176:=by
 have H:=hg.le;by_cases y:(jF 0 ns).length<=6
 ·exact aj0 hg ht y hl us (λu h=>⟨λe=>by have:=(hu u h).1;rw[e]at this;simp at this,(hu u h).2⟩) hd
 ·obtain⟨c1,c2⟩:=Ld ht;rw[J8,show ns.countP (λc=>yG c.op)=pu Gc ns from rfl]at y;have B:pu zO ns=0:=by omega
  have C:pu Cx ns=0:=by omega
  have f:ns.length=8:=by omega
  have p:=abf ht B C;have D:=hg.wf;have j:=Qm hg (m:=7) (by omega) (by omega);have E:(ns.take 7).length=7:=by rw[List.length_take];omega
  have z:Seg 0 (ns.take 7):=adr _ (λi c n=>by
   have F:=(aB9.1 n).1;rw[List.getElem?_take_of_lt (by omega)]at n;rcases p i c n with⟨h1,h2⟩ | ⟨h1,h2,_,h3,h4⟩
   ·rcases D i c n with⟨_,a,b⟩ | ⟨a,b,_⟩ | ⟨a,b,_⟩
    ·exact aCa ⟨h1,h2,a,b⟩
    ·omega
    ·omega
   ·exact aCb ⟨h1,h2,by omega,h4⟩) (by omega)
  have k:(jF 0 (ns.take 7)).length<=6:=by
   obtain⟨I,J⟩:=Ld z;rw[J8,show (ns.take 7).countP (λc=>yG c.op)=pu Gc (ns.take 7) from rfl];omega
  obtain⟨σ,q,G⟩:=Sm z true;have s:yY σ (ns.take 7):=λi c n=>by have:=G i c n;rwa [aCw]at this
  rw[aCw]at q;obtain⟨c,A⟩:∃ c,ns[7]?=some c:=⟨ns[7],aB3 (by omega)⟩;have t:∀ N,pj (ns.take 7) σ N<2 ^ 6:=λN=>Vo _ (by omega);have v:∀ u N,u≠[]->(back ns u N).testBit 6=Qf (ns.take 7) σ u (pj (ns.take 7) σ N):=λu N w=>by
   rw[UG j s k w,E];exact QF hg (m:=7) (by omega) (by omega) N u 6 (by omega)
  rcases p 7 c A with⟨h1,_⟩ | ⟨_,h1,h2,h3,_⟩
  ·omega
  ·have d:∀ a u N,(back ns (a::u) N).testBit 7=bg c.op a ((back ns (a::u) N).testBit 6) ((back ns (a::u) N).testBit c.r) ((back ns u N).testBit 7) ((back ns u N).testBit 6):=λa u N=>by
    have:=kH hg a (back ns u N) 7 c A;simp only[tb]at this;rw[show c.l=6 by omega]at this;exact this
   simp only[eF,aCN,beq_iff_eq]at h1;rcases h1 with((h1 | h1) | h1) | h1
   ·exact absurd h1 h2
   ·refine Vd hg hl us (λu h=>(hu u h).2) hd (λu=>Qf (ns.take 7) σ u.tail) (λu h=>?_) (pj (ns.take 7) σ) t (λ_ b=>b) (λu h N=>?_)
    ·obtain⟨o,_⟩:=hu u h;refine Ei j s q k ?_;cases u with
     | nil=>simp at o
     | cons a u=>cases u with
      | nil=>simp at o
      | cons b u=>simp
    ·obtain⟨o,_⟩:=hu u h;cases u with
     | nil=>simp at o
     | cons a u=>
      rw[f];show (back ns (a::u) N).testBit 7=_;rw[d];simp only[bg,h1];simp only[List.tail_cons];exact v u N (by intro e;rw[e]at o;simp at o)
   ·have g:∀ u N,(back ns u N).testBit 7=(PH (ns.take 7) σ u (pj (ns.take 7) σ N)||N.testBit 7):=by
     intro u N
     induction u with
     | nil=>simp[PH,back]
     | cons a u ih=>
      rw[d];simp only[bg,h1];rw[PH,<-v (a::u) N (by simp),Bool.or_assoc,<-ih];simp
    refine Vd hg hl us (λu h=>(hu u h).2) hd (PH (ns.take 7) σ) (λu _=>Tc j s q k u) (pj (ns.take 7) σ) t (λN b=>b||N.testBit 7) (λu h N=>?_);rw[f];exact g u N
   ·have g:∀ u N,(back ns u N).testBit 7=(KH (ns.take 7) σ u (pj (ns.take 7) σ N)&&N.testBit 7):=by
     intro u N
     induction u with
     | nil=>simp[KH,back]
     | cons a u ih=>
      rw[d];simp only[bg,h1];rw[KH,<-v (a::u) N (by simp),Bool.and_assoc,<-ih];simp
    refine Vd hg hl us (λu h=>(hu u h).2) hd (KH (ns.take 7) σ) (λu _=>QI j s q k u) (pj (ns.take 7) σ) t (λN b=>b&&N.testBit 7) (λu h N=>?_);rw[f];exact g u N
theorem few{ns:List Nd}(hg:Good ns)(ht:Seg 0 ns){aa:Nat->Bool}(hl:jf ns (aW ns ns.length) aa)(us:List (List Nat))(hu:∀ u∈us,∀ x∈u,x<8)
  (hd:(us.map λu=>gv (dR ns aa (aL ns aa) u)).Nodup):us.length<=796594185:=by
 have c:us.Nodup:=by
  rw[List.nodup_iff_pairwise_ne,List.pairwise_map]at hd;rw[List.nodup_iff_pairwise_ne];exact hd.imp λh e=>h (by rw[e])
 have g:=ajZ hg ht hl (us.filter λu=>decide (2<=u.length)) (λu h=>by
  rw[List.mem_filter]at h;exact⟨by simpa using h.2,hu u h.1⟩) (List.Nodup.sublist (List.Sublist.map _ List.filter_sublist) hd)
 have i:(us.filter λu=>!decide (2<=u.length)).length<=9:=by
  have:=AV (us.filter λu=>!decide (2<=u.length)) ([]::(List.range 8).map λx=>[x]) (c.sublist List.filter_sublist) (λu h=>by
   rw[List.mem_filter]at h;obtain⟨d,f⟩:=h;cases u with
   | nil=>simp
   | cons a u=>cases u with
    | nil=>
     have:=hu [a] d a (by simp);simp[this]
    | cons b u=>simp at f)
  simpa using this
 have d:=Jz (λu:List Nat=>decide (2<=u.length)) us;omega
def aZ(xs:List Nat):Nat->Nat->Nat:=λi l=>xs.getD (8*i+l) 0
theorem xB(xs:List Nat)(p:Nat):aZ xs (p / 8) (p % 8)=xs.getD p 0:=by unfold aZ;rw[show 8*(p / 8)+p % 8=p by omega]
theorem fF{xs:List Nat}{x p:Nat}(h:p<xs.length):(xs++[x]).getD p 0=xs.getD p 0:=by simp[List.getD,aCh h]
theorem dV(xs:List Nat)(x:Nat):(xs++[x]).getD xs.length 0=x:=by simp[List.getD]
theorem o7{xs:List Nat}{x:Nat}:∀ p,p<=xs.length->met (aZ (xs++[x])) p=met (aZ xs) p
 | 0,_=>rfl
 | p+1,h=>by rw[met,met,o7 p (by omega),xB,xB,fF (by omega)]
section
variable (ns:List Nd) (aa aJ:Nat->Bool)
structure gU (us:List (List Nat)) (xs:List Nat):Prop where
 first:us[0]?=some []
 zQ:∀ u∈us,∀ x∈u,x<8
 Hq:(us.map λu=>gv (dR ns aa aJ u)).Nodup
 ok:∀ p,p<xs.length->∃ u0 u1,us[p / 8]?=some u0/\us[xs.getD p 0]?=some u1/\geq (dR ns aa aJ u1) (stepG ns aa (dR ns aa aJ u0) (p % 8))=true
 num:us.length=met (aZ xs) xs.length
 Kb:∀ p,p<xs.length->p / 8<met (aZ xs) p/\xs.getD p 0<=met (aZ xs) p
end
variable {ns:List Nd} {aa aJ:Nat->Bool} {us:List (List Nat)} {xs:List Nat}
theorem Ms:gU ns aa aJ [[]] []:=by
 refine⟨rfl,λu b x c=>?_,by simp,λp a=>by simp at a,rfl,λp a=>by simp at a⟩;simp at b;subst b;simp at c
theorem Ve(h:gU ns aa aJ us xs){u0 u1:List Nat}{j:Nat}(h0:us[xs.length / 8]?=some u0)(h1:us[j]?=some u1)(hq:geq (dR ns aa aJ u1) (stepG ns aa (dR ns aa aJ u0) (xs.length % 8))=true):gU ns aa aJ us (xs++[j]):=by
 have c:=(aB9.1 h1).1;have b:=(aB9.1 h0).1;have d:=h.num;refine⟨h.first,h.zQ,h.Hq,λp a=>?_,?_,λp a=>?_⟩
 ·rw[aCd,aCv]at a;by_cases e:p=xs.length
  ·subst e;rw[dV];exact⟨u0,u1,h0,h1,hq⟩
  ·rw[fF (by omega)];exact h.ok p (by omega)
 ·rw[aCd,aCv,met,o7 _ (aB2 _),xB,dV,<-h.num];omega
 ·rw[aCd,aCv]at a;rw[o7 p (by omega)];by_cases e:p=xs.length
  ·subst e;rw[dV,<-h.num];exact⟨b,by omega⟩
  ·rw[fF (by omega)];exact h.Kb p (by omega)
theorem amF{g k:Nat->Bool}(h:geq g k=false):gv g≠gv k:=λe=>by
 have:geq g k=true:=jR.2 (amE e);rw[h]at this;cases this
theorem Vf(h:gU ns aa aJ us xs){u0:List Nat}(h0:us[xs.length / 8]?=some u0)(hall:∀ u∈us,geq (dR ns aa aJ u) (stepG ns aa (dR ns aa aJ u0) (xs.length % 8))=false):gU ns aa aJ (us++[u0++[xs.length % 8]]) (xs++[us.length]):=by
 have l:=(aB9.1 h0).1;have r:=h.num;have d:∀ {i:Nat} {u:List Nat},us[i]?=some u->(us++[u0++[xs.length % 8]])[i]?=some u:=λ{i u} c=>by
  rw[aCh (aB9.1 c).1];exact c
 refine⟨d h.first,λu c=>?_,?_,λp g=>?_,?_,λp g=>?_⟩
 ·rcases aCG.1 c with c | c
  ·exact h.zQ u c
  ·simp at c;subst c;intro x f;rcases aCG.1 f with f | f
   ·exact h.zQ u0 (aCJ h0) x f
   ·simp at f;omega
 ·rw[aCM,List.nodup_append];refine⟨h.Hq,by simp,λa m b k=>?_⟩;simp at k;subst k;obtain⟨u,c,rfl⟩:=aCU.1 m;rw[qH];exact amF (hall u c)
 ·rw[aCd,aCv]at g;by_cases e:p=xs.length
  ·subst e;rw[dV];refine⟨u0,u0++[xs.length % 8],d h0,by simp,?_⟩;rw[qH];exact jR.2 λj _=>rfl
  ·rw[fF (by omega)];obtain⟨a,b,n,o,q⟩:=h.ok p (by omega);exact⟨a,b,d n,d o,q⟩
 ·rw[aCd,aCv,aCd,aCv,met,o7 _ (aB2 _),xB,dV,<-h.num];omega
 ·rw[aCd,aCv]at g;rw[o7 p (by omega)];by_cases e:p=xs.length
  ·subst e;rw[dV,<-h.num];exact⟨l,by omega⟩
  ·rw[fF (by omega)];exact h.Kb p (by omega)
theorem Ac(hg:Good ns)(ht:Seg 0 ns)(hl:jf ns (aW ns ns.length) aa)(h:gU ns aa (aL ns aa) us xs):us.length<=796594185:=few hg ht hl us h.zQ h.Hq
theorem Fg(h:gU ns aa aJ us xs)(he:xs.length=8*us.length):jQ us.length (aZ xs):=by
 refine⟨λp a=>?_,?_⟩
 ·rw[xB];exact h.Kb p (by omega)
 ·rw[<-he,<-h.num]
open Go.RowKit
theorem bE.num{w w':World}{T b o:Nat}{row:Option Nat}{g:Nat->Bool}(h:bE w b o g)(n:wX w w' T row)(h1:b≠T)(h2:row≠some b):bE w' b o g:=
 ⟨λj hj=>(n.cell (p:=⟨b,o+j,none⟩) h.lt h1 (λe=>h2 e.symm)).trans (h.c j hj),λj hj=>(n.frozen (p:=⟨b,o+j,none⟩) h.lt h1 (λe=>h2 e.symm)).trans (h.f j hj)⟩
theorem ajt{w w':World}{T B e s n:Nat}{row:Option Nat}{v:Value}{xs:List Value}(h:w.ownsRow B e s v n xs)(f:wX w w' T row)(h1:v.ownBlock≠some T)(h2:v.ownBlock=none\/v.ownBlock≠row):w'.ownsRow B e s v n xs:=by
 refine⟨h.1,?_⟩;rcases h.2 with h0 | ⟨g,cap,cur,ev,hb,hg,r⟩
 ·exact aCa h0
 ·subst ev;refine aCb ⟨g,cap,cur,rfl,hb,?_,r⟩;rw[f.block g (dC hg) (λe=>h1 (by rw[<-e];rfl)) (λe=>by
   rcases h2 with h2 | h2
   ·simp[Value.ownBlock]at h2
   ·exact h2 (by rw[<-e];rfl))]
  exact hg
theorem adA{B0:Nat}{a w w':World}{T:Nat}{row:Option Nat}(h:Below B0 a w)(f:wX w w' T row)(hB:B0<=w.heap.size)(h1:B0<=T)(h2:∀ k,row=some k->B0<=k):Below B0 a w':=
 ⟨f.os.trans h.os,f.tape.trans h.tape,f.output.trans h.output,aCW h.size f.size,λk hk=>(f.block k (by omega) (by omega) (λe=>by have:=h2 k e.symm;omega)).trans (h.block k hk)⟩
theorem XC{w:World}{cs:Array Value}{t n size:Nat}(hs:cs.size=n*size)(hn:n<=maxLen):(w.alloc (.cells cs t)).ownsRow w.heap.size t size (.slice (some ⟨w.heap.size,0,none⟩) n n) n cs.toList:=by
 refine⟨by simpa using hs,aCb ⟨w.heap.size,n,cs,rfl,aB2 _,heap_alloc_last w _,aB2 _,hn,hs,?_⟩⟩;rw[List.take_of_length_le (by simp;omega)]
def Cm(ns:List Nd)(aa aJ:Nat->Bool)(us:List (List Nat))(xs:List Nat)(SS:List St):Prop:=∀ i s,SS[i]?=some s->∃ u,us[i]?=some u/\8*i+8<=xs.length/\s=⟨rE aa (dR ns aa aJ u),(List.range 8).map λl=>((xs.getD (8*i+l) 0:Nat):Int)⟩
theorem Pi{ns:List Nd}{aa aJ:Nat->Bool}{us vs:List (List Nat)}{xs ys:List Nat}{SS:List St}(h:Cm ns aa aJ us xs SS):Cm ns aa aJ (us++vs) (xs++ys) SS:=λi s hi=>by
 obtain⟨u,h1,h2,h3⟩:=h i s hi;refine⟨u,by rw[aCh (aB9.1 h1).1];exact h1,by rw[aCd];omega,?_⟩;rw[h3];congr 1;refine aCX λl hl=>?_;have:l<8:=by simpa using hl
 simp[List.getD,aCh (show 8*i+l<xs.length by omega)]
theorem Y8{ns:List Nd}{aa aJ:Nat->Bool}{us:List (List Nat)}{xs:List Nat}{SS:List St}(h:Cm ns aa aJ us xs SS):ku SS:=λs hs=>by
 obtain⟨i,hi,e⟩:=aCK hs;obtain⟨u,_,_,h3⟩:=h i s (by rw[aB3 hi,e]);rw[h3];simp
theorem Tryz.NV:(Tryz.prog.info? 119).map (λi=>(i.zero,i.size,i.bytes))=some (some (.agg #[.int .i64 0,.int .i64 0,.int .i64 0,.int .i64 0,.int .i64 0,.int .i64 0,.int .i64 0,.int .i64 0,.int .i64 0]),9,72):=by kernel_rfl
structure pG (w:World) (b:Nat) (o:Nat) (xs:List Nat):Prop where
 c0:w.cell? ⟨b,0,none⟩=some (.int .i64 (o:Nat))
 c:∀ m,m<8->w.cell? ⟨b,1+m,none⟩=some (.int .i64 (xs.getD m 0:Nat))
 f:∀ m,m<9->w.frozen? ⟨b,m,none⟩=false
theorem pG.lt{w:World}{b o:Nat}{xs:List Nat}(h:pG w b o xs):b<w.heap.size:=World.block_lt_of_cell? w ⟨b,0,none⟩ h.c0
theorem pG.below{w w':World}{b o:Nat}{xs:List Nat}(h:pG w b o xs)(hb:Below w.heap.size w w'):pG w' b o xs:=
 ⟨(hb.cell (p:=⟨b,0,none⟩) h.lt).trans h.c0,λm hm=>(hb.cell (p:=⟨b,1+m,none⟩) h.lt).trans (h.c m hm),λm hm=>(hb.frozen (p:=⟨b,m,none⟩) h.lt).trans (h.f m hm)⟩
theorem pG.num{w w':World}{T b o:Nat}{row:Option Nat}{xs:List Nat}(h:pG w b o xs)(n:wX w w' T row)(h1:b≠T)(h2:row≠some b):pG w' b o xs:=
 ⟨(n.cell (p:=⟨b,0,none⟩) h.lt h1 (λe=>h2 e.symm)).trans h.c0,λm hm=>(n.cell (p:=⟨b,1+m,none⟩) h.lt h1 (λe=>h2 e.symm)).trans (h.c m hm),λm hm=>(n.frozen (p:=⟨b,m,none⟩) h.lt h1 (λe=>h2 e.symm)).trans (h.f m hm)⟩
theorem pG.set{w:World}{b o:Nat}{xs:List Nat}(h:pG w b o xs){j:Nat}(hl:xs.length<8):pG (w.setCell ⟨b,1+xs.length,none⟩ (.int .i64 (j:Nat))) b o (xs++[j]):=by
 refine⟨?_,λm a=>?_,λm a=>by rw[aCm];exact h.f m a⟩
 ·rw[aB8 _ ⟨b,1+xs.length,none⟩ ⟨b,0,none⟩ _ (λq=>by have:=congrArg Addr.off q;simp at this)];exact h.c0
 ·by_cases e:m=xs.length
  ·subst e;rw[aCz _ _ _ (h.c _ a),dV]
  ·rw[aB8 _ ⟨b,1+xs.length,none⟩ ⟨b,1+m,none⟩ _ (λq=>e (by have:=congrArg Addr.off q;simp at this;omega)),h.c m a];by_cases d:m<xs.length
   ·rw[fF d]
   ·have:(xs++[j]).getD m 0=0:=by simp[List.getD,List.getElem?_eq_none (show (xs++[j]).length<=m by simp;omega)]
    rw[this];simp[List.getD,List.getElem?_eq_none (show xs.length<=m by omega)]
theorem Tk(w:World)(o:Nat)(t:TypeId):pG (w.alloc (.cells #[.int .i64 (o:Nat),.int .i64 0,.int .i64 0,.int .i64 0,.int .i64 0,.int .i64 0,.int .i64 0,.int .i64 0,.int .i64 0] t)) w.heap.size o []:=by
 refine⟨by simp,λm a=>?_,λm a=>by simp⟩;have:m=0\/m=1\/m=2\/m=3\/m=4\/m=5\/m=6\/m=7:=by omega
 rcases this with rfl | rfl | rfl | rfl | rfl | rfl | rfl | rfl <;> simp
theorem xR.set{w:World}{B T:Nat}{v:Value}{gs:List (Nat->Bool)}(h:xR w B T v gs)(p:Addr)(u:Value)(h1:p.block≠T)(h2:v.ownBlock≠some p.block):xR (w.setCell p u) B T v gs:=
 ⟨by rw[aB8 _ p ⟨T,0,none⟩ _ (λq=>h1 (congrArg Addr.block q))];exact h.c,by rw[aCm];exact h.f,
  h.own.kept (row:=some p.block) ⟨rfl,rfl,rfl,by rw[aCr];exact aB2 _,λq hq hne=>aCD _ _ _ _ (λe=>hne (by rw[e]))⟩ (aCb h2),h.ne⟩
theorem afn{w:World}{B e s n:Nat}{v:Value}{xs:List Value}(h:w.ownsRow B e s v n xs)(p:Addr)(u:Value)(h2:v.ownBlock≠some p.block):(w.setCell p u).ownsRow B e s v n xs:=
 h.kept (row:=some p.block) ⟨rfl,rfl,rfl,by rw[aCr];exact aB2 _,λq hq hne=>aCD _ _ _ _ (λe=>hne (by rw[e]))⟩ (aCb h2)
theorem xR.grown{w w':World}{B T:Nat}{v:Value}{gs:List (Nat->Bool)}{row:Option Nat}(h:xR w B T v gs)(hg:w.grownBy w' row)(h1:row≠some T)(h2:v.ownBlock=none\/v.ownBlock≠row):xR w' B T v gs:=
 ⟨hg.cell h.c (λe=>h1 e.symm),(aCo (a:=⟨T,0,none⟩) (hg.block T h.lt (λe=>h1 e.symm))).trans h.f,h.own.kept hg h2,h.ne⟩
theorem aan{l:List Nat}(h:l.length=8):∃ a0 a1 a2 a3 a4 a5 a6 a7,l=[a0,a1,a2,a3,a4,a5,a6,a7]:=by
 match l,h with
 | [a0,a1,a2,a3,a4,a5,a6,a7],_=>exact⟨_,_,_,_,_,_,_,_,rfl⟩
theorem ads(w:World)(cs:List Value)(t:TypeId):∀ j u,cs[j]?=some u->(w.alloc (.cells cs.toArray t)).cell? ((⟨w.heap.size,0,none⟩:Addr).add j)=some u:=λj u hj=>by
 rw[Addr.add_mid,aCR (w.alloc (.cells cs.toArray t)) w.heap.size (0+j) cs.toArray t (0,0) (heap_alloc_last w _)];simpa using hj
def EC(ns:List Nd)(aa aJ:Nat->Bool)(w:World)(e:Ending)(w':World):Prop:=
 ∃ us xs SS v,e=.returned v/\gU ns aa aJ us xs/\xs.length=8*us.length/\SS.length=us.length/\Cm ns aa aJ us xs SS/\w'.ownsRow w.heap.size 119 9 v us.length (gu SS)/\Below w.heap.size w w'
theorem KZ(P:Nat)(ns:List Nd)(aa aJ:Nat->Bool)(w:World)(h8:ns.length<=8)(Gw:∀ us xs,gU ns aa aJ us xs->us.length<=796594185)(ho:vZ w P ns aa aJ) :
  Calls Tryz.prog 32 #[.pointer (some ⟨P,0,none⟩)] w (EC ns aa aJ w):=by
 have hP:=ho.lt;have HO:=hid ho;have rC:=hid Gw;obtain⟨i0,C,aT,aP,aO⟩:=info_parts Tryz.NV;clear ho Gw;unfold EC;go_enter Tryz.func32,Tryz.ntmps32;go_wp2_with fail;refine(QE P aJ _ HO.out.aJ).mono ?_;rintro e w1 ⟨rfl,aC⟩;have hs1:=aC.size;go_wp2_with (refine bM rfl (.tmp 3) (.tmp 12) rfl w1.heap.size 0 aJ rfl rfl (ig w1).there ?_);intro o D;have G3:=hid D.at_;have aM:Hid (Below w.heap.size w o):=hid (D.bD _ _ hs1 (aC.alloc hs1 _));have kX:w.heap.size<o.heap.size:=by rw[D.size,size_alloc];omega
 clear D aC;have EX0:Hid (xR ((o.alloc (.cells (gv aJ).toArray 61)).alloc (.cells #[.slice (some ⟨o.heap.size,0,none⟩) 1 1] 115)) o.heap.size (o.heap.size+1) (.slice (some ⟨o.heap.size,0,none⟩) 1 1) ([[]].map (dR ns aa aJ))):=hid ⟨by simp,by simp,by
   have:=(XC (w:=o) (cs:=(gv aJ).toArray) (t:=61) (n:=1) (size:=256) (by simp[mG]) (by unfold maxLen;omega)).alloc (.cells #[.slice (some ⟨o.heap.size,0,none⟩) 1 1] 115);simpa [qz,dR] using this,by simp[Value.ownBlock]⟩
 have dW:=hid ((aM.out.alloc (by omega) (.cells (gv aJ).toArray 61)).alloc (by simp;omega) (.cells #[.slice (some ⟨o.heap.size,0,none⟩) 1 1] 115));go_wp2_with (first | (refine aN rfl (.tmp 3) rfl w1.heap.size 0 aJ rfl G3.out ?_) | (refine zw rfl (.tmp 13) rfl aJ rfl ?_))
 generalize hBE:o.heap.size=B at *
 go_loopw [5,6] (λvs i r=>∃ (k:Nat) (us:List (List Nat)) (xs:List Nat) (v:Value) (g:List St),i=.int .i64 k/\k<=us.length/\xs.length=8*k/\g.length=k/\Hid (gU ns aa aJ us xs)/\Hid (Cm ns aa aJ us xs g)/\Hid (xR r B (B+1) v (us.map (dR ns aa aJ)))/\Hid (r.ownsRow w.heap.size 119 9 vs k (gu g))/\Hid (vs.ownBlock≠some (B+1))/\Hid (Below w.heap.size w r)/\B+1<r.heap.size) (λ_ i _=>796594190 - (intOf i).toNat)
 case atStart=>exact⟨0,[[]],[],_,[],rfl,by simp,rfl,rfl,hid Ms,hid (λi s h=>by simp at h),EX0,hid (aCp _ _ _ _),hid (by simp[Value.ownBlock]),dW,by simp;omega⟩
 case round=>
  obtain⟨k,us,xs,v,g,rfl,hk,Bb,nN,x,J,m,z,K,F,hsz⟩:=hrel;rename World=>W0;have XZ:=rC.out us xs x.out;have cT:=m.out.c;obtain⟨ao,cp,rfl⟩:=ak m.out.own;rw[aCO]at *;by_cases hlk:k<us.length
  ·obtain⟨u0,EY⟩:∃ u0,us[k]?=some u0:=⟨us[k],aB3 hlk⟩;obtain⟨kZ,mQ,e2,CO⟩:=H9 m.out.own;simp only[Value.slice.injEq,aCO]at e2;obtain⟨rfl,_,rfl⟩:=e2;obtain⟨gc,e3,al8,Us⟩:=CO (by rw[aCO];omega);subst e3;have GK:=hid (Us k (dR ns aa aJ u0) (by rw[aCs,EY];rfl));have A:=hid EY;clear Us CO EY;have Dc:=hid (λq (h:(Value.slice (some ⟨gc,0,none⟩) us.length cp).ownBlock=some q)=>(m.out.own.lt q h).2);have HSB:=hid (λq h=>(z.out.lt q h).2);go_wp2_with (first | (refine aN rfl (.tmp 26) rfl gc (k*256) _ rfl GK.out ?_) | (refine bM rfl (.tmp 7) (.tmp 27) rfl W0.heap.size 0 (dR ns aa aJ u0) rfl rfl (ig W0).there ?_))
   intro L D;have dO:Below W0.heap.size W0 L:=D.bD _ _ (aB2 _) ((aB4 _ _).alloc (aB2 _) _);have A7:=hid D.at_;have Iq:=hid (m.out.below dO);have anN:=hid (ai z.out dO);have M:=hid (F.out.trans (dO.mono (by omega)));have qP:L.heap.size=W0.heap.size+1:=by rw[D.size,size_alloc]
   clear D dO GK m z F;go_wp2_with (refine aN rfl (.tmp 7) rfl W0.heap.size 0 _ rfl A7.out ?_);refine(Jl P ns aa aJ _ L (HO.out.below M.out hP)).mono ?_;rintro e a ⟨rfl,aA⟩;have A7:=hid (A7.out.below aA (by omega));have VO:=hid (Iq.out.below aA);have anM:=hid (ai anN.out aA);have bF:=hid (M.out.trans (aA.mono (by omega)));have qQ:=aA.size;clear aA Iq anN M;generalize G:rE aa (dR ns aa aJ u0)=out at *;have auj:=hid G;clear G;have ba:=(aB4 a.heap.size a).alloc (aB2 _) (.cells #[.int .i64 (out:Nat),.int .i64 0,.int .i64 0,.int .i64 0,.int .i64 0,.int .i64 0,.int .i64 0,.int .i64 0,.int .i64 0] 119);have N4:=hid (Tk a out 119);have A74:=hid (A7.out.below ba (by omega));have VN:=hid (VO.out.below ba);have auk:=hid (ai anM.out ba);have Wo:=hid (bF.out.trans (ba.mono (by omega)));clear ba A7 VO anM bF;go_wp2_with fail
   go_loopw [9] (λi r=>∃ (l:Nat) (us:List (List Nat)) (xs:List Nat) (v:Value),i=.int .i64 l/\l<=8/\xs.length=8*k+l/\Hid (us[k]?=some u0)/\Hid (gU ns aa aJ us xs)/\Hid (Cm ns aa aJ us xs g)/\Hid (xR r B (B+1) v (us.map (dR ns aa aJ)))/\Hid (v.ownBlock≠some W0.heap.size)/\Hid (v.ownBlock≠some a.heap.size)/\Hid (bE r W0.heap.size 0 (dR ns aa aJ u0))/\Hid (pG r a.heap.size out (xs.drop (8*k)))/\Hid (r.ownsRow w.heap.size 119 9 u5 k (gu g))/\Hid (Below w.heap.size w r)/\a.heap.size<r.heap.size) (λi _=>8 - (intOf i).toNat)
   case atStart=>exact⟨0,us,xs,_,rfl,by omega,by omega,A,x,J,VN,hid (λe=>by have:=Dc.out _ e;omega),hid (λe=>by have:=Dc.out _ e;omega),A74,by rw[List.drop_of_length_le (by omega)];exact N4,auk,Wo,by simp⟩
   case round=>
    obtain⟨l,us,xs,v,rfl,hl8,Bb,A,x,J,m,N,O,H7,d,z,F,jT⟩:=hrel;rename World=>W3;by_cases jI:l<8
    ·have ST:=λW (h:vZ W P ns aa aJ)=>Sa P l ns aa aJ (dR ns aa aJ u0) W jI h8 h;go_wp2_with (refine aN rfl (.tmp 7) rfl W0.heap.size 0 _ rfl H7.out ?_);refine(ST _ (HO.out.below F.out hP)).mono ?_;rintro e w5 ⟨rfl,bi⟩;have vB:=bi.size;clear ST;go_wp2_with (refine bM rfl (.tmp 10) (.tmp 39) rfl w5.heap.size 0 (stepG ns aa (dR ns aa aJ u0) l) rfl rfl (ig w5).there ?_);intro w6 S6;have Yr:Below W3.heap.size W3 w6:=S6.bD _ _ vB (bi.alloc vB _);have A10:=hid S6.at_;have vz:w6.heap.size=w5.heap.size+1:=by rw[S6.size,size_alloc]
     have Ip:=hid (m.out.below Yr);have H76:=hid (H7.out.below Yr (by omega));have HN6:=hid (d.out.below Yr);have Q:=hid (ai z.out Yr);have jV:=hid (F.out.trans (Yr.mono (by omega)));have as1:=hid (λq (h:v.ownBlock=some q)=>(m.out.own.lt q h));clear S6 Yr bi m H7 d z F;have XZ:=rC.out us xs x.out;go_wp2_with (refine aN rfl (.tmp 10) rfl w5.heap.size 0 _ rfl A10.out ?_);refine(ZJ B (B+1) v (us.map (dR ns aa aJ)) (stepG ns aa (dR ns aa aJ u0) l) w6 Ip.out (by omega) (by rw[aCO];omega)).mono ?_;rintro e w7 ⟨j,v7,gs7,rfl,hEX,Ya,nE⟩;have Gt:xs.length / 8=k/\xs.length % 8=l:=by omega
     obtain⟨Xo,rfl,hE7,hU7,hS7,R⟩:∃ Xo,gs7=Xo.map (dR ns aa aJ)/\gU ns aa aJ Xo (xs++[j])/\Xo[k]?=some u0/\Cm ns aa aJ Xo (xs++[j]) g/\(v7.ownBlock=v.ownBlock\/∃ q,v7.ownBlock=some q/\w6.heap.size<=q):=by
      rcases nE with⟨rfl,rfl,g0,h1,h2⟩ | ⟨rfl,rfl,h1,h2⟩
      ·rw[aCs,Option.map_eq_some_iff]at h1;obtain⟨u1,h3,rfl⟩:=h1;have h4:=Pi (vs:=[]) (ys:=[j]) J.out;rw[List.append_nil]at h4;exact⟨us,rfl,Ve x.out (by rw[Gt.1];exact A.out) h3 (by rw[Gt.2];exact h2),A.out,h4,aCa rfl⟩
      ·refine⟨us++[u0++[l]],by rw[aCM,List.map_singleton,qH],?_,?_,Pi J.out,h1⟩
       ·have:=Vf x.out (u0:=u0) (by rw[Gt.1];exact A.out) (λu hu=>by rw[Gt.2];exact h2 _ (aCU.2 ⟨u,hu,rfl⟩));rw[Gt.2]at this;rw[aCO];exact this
       ·rw[aCh (aB9.1 A.out).1];exact A.out
     have H:∀ q,v.ownBlock=some q->B<=q:=λq h=>(as1.out q h).1;have H77:=hid (H76.out.num Ya (by omega) N.out);have E:=hid (HN6.out.num Ya (by omega) O.out);have alO:u5.ownBlock≠some a.heap.size:=λe=>by have:=HSB.out _ e;omega
     have anL:=hid (ajt Q.out Ya K.out (aY Q.out Ip.out.own (by decide)));have jE:=hid (adA jV.out Ya (by omega) (by omega) (λq h=>by have:=H q h;omega));have uz:=Ya.size;have aly:v7.ownBlock≠some W0.heap.size:=by
      rcases R with h | ⟨q,h,hq⟩
      ·rw[h];exact N.out
      ·rw[h];intro e;cases e;omega
     have S:v7.ownBlock≠some a.heap.size:=by
      rcases R with h | ⟨q,h,hq⟩
      ·rw[h];exact O.out
      ·rw[h];intro e;cases e;omega
     have X0:(xs.drop (8*k)).length=l:=by rw[List.length_drop];omega
     have n1:=E.out.c l jI;have n2:=E.out.f (1+l) (by omega);have D8:=hid (E.out.set (j:=j) (by rw[X0];exact jI));rw[X0,show xs.drop (8*k)++[j]=(xs++[j]).drop (8*k) by rw[List.drop_append_of_le_length (by omega)]]at D8;have D7:=hid (H77.out.other ⟨a.heap.size,1+l,none⟩ (.int .i64 (j:Nat)) (aCa (by show a.heap.size≠W0.heap.size;omega)));have DX:=hid (hEX.set ⟨a.heap.size,1+l,none⟩ (.int .i64 (j:Nat)) (by show a.heap.size≠B+1;omega) S);have DOS:=hid (afn anL.out ⟨a.heap.size,1+l,none⟩ (.int .i64 (j:Nat)) alO);have DB:=hid (jE.out.setCell (p:=⟨a.heap.size,1+l,none⟩) (by show w.heap.size<=a.heap.size;omega) (.int .i64 (j:Nat)));have at7:=hid aly;have at6:=hid S;have HE7:=hid hE7;have HU7:=hid hU7;have HS7:=hid hS7;clear nE hEX Ya R aly S hE7 hU7 hS7 H alO H76 HN6 Q jV Ip H77 E anL jE x A J N O A10;generalize (xs.drop (8*k)).getD l 0=ov at *;go_wp2_with fail;go_roundw
     case rel=>exact⟨l+1,Xo,xs++[j],v7,by go_num,by omega,by rw[aCd,aCv];omega,HU7,HE7,HS7,DX,at7,at6,D7,D8,DOS,DB,by simp;omega⟩
     case measure=>simp[intOf];omega
    ·obtain rfl:l=8:=by omega
     obtain⟨T,U,V,X,Y,Z,y6,y7,hys⟩:=aan (show (xs.drop (8*k)).length=8 by rw[List.length_drop];omega);have nZ:∀ l,xs.getD (8*k+l) 0=(xs.drop (8*k)).getD l 0:=λl=>by simp[List.getD,List.getElem?_drop]
     have QR:Hid (Cm ns aa aJ us xs (g++[⟨(out:Nat),[(T:Int),U,V,X,Y,Z,y6,y7]⟩])):=hid (λi s C=>by
      by_cases e:i<g.length
      ·rw[aCh e]at C;exact J.out i s C
      ·rw[aCi (by omega)]at C;have e2:i=k:=by
        have:=(aB9.1 C).1;simp at this;omega
       subst e2;rw[nN,Nat.sub_self]at C;simp at C;refine⟨u0,A.out,by omega,?_⟩;rw[<-C,auj.out];congr 1;rw[show (λl=>((xs.getD (8*i+l) 0:Nat):Int))=λl=>(([T,U,V,X,Y,Z,y6,y7].getD l 0:Nat):Int) by funext l;rw[nZ,hys]];rfl)
     have d:=d.out;rw[hys]at d;have q0:=d.c0;have q1:W3.cell? ⟨a.heap.size,1,none⟩=some (.int .i64 (T:Nat)):=d.c 0 (by omega);have q2:W3.cell? ⟨a.heap.size,2,none⟩=some (.int .i64 (U:Nat)):=d.c 1 (by omega);have q3:W3.cell? ⟨a.heap.size,3,none⟩=some (.int .i64 (V:Nat)):=d.c 2 (by omega);have q4:W3.cell? ⟨a.heap.size,4,none⟩=some (.int .i64 (X:Nat)):=d.c 3 (by omega);have q5:W3.cell? ⟨a.heap.size,5,none⟩=some (.int .i64 (Y:Nat)):=d.c 4 (by omega);have q6:W3.cell? ⟨a.heap.size,6,none⟩=some (.int .i64 (Z:Nat)):=d.c 5 (by omega);have q7:W3.cell? ⟨a.heap.size,7,none⟩=some (.int .i64 (y6:Nat)):=d.c 6 (by omega);have q8:W3.cell? ⟨a.heap.size,8,none⟩=some (.int .i64 (y7:Nat)):=d.c 7 (by omega);have XZ:=rC.out us xs x.out;have Uq:=(aB9.1 A.out).1;clear d nZ hys;go_wp2_with (at_builtin;go_must (refine aCE _ rfl (.tmp 45) (.tmp 47) 65 rfl w.heap.size 119 i0 (.agg #[.int .i64 0,.int .i64 0,.int .i64 0,.int .i64 0,.int .i64 0,.int .i64 0,.int .i64 0,.int .i64 0,.int .i64 0]) 9 72 Tryz.underlying65 C aT aP aO rfl (by decide) _ k (gu g) rfl (z.out.alloc _) ⟨W3.heap.size,0,none⟩ 1 1 [.int .i64 (out:Nat),.int .i64 (T:Nat),.int .i64 (U:Nat),.int .i64 (V:Nat),.int .i64 (X:Nat),.int .i64 (Y:Nat),.int .i64 (Z:Nat),.int .i64 (y6:Nat),.int .i64 (y7:Nat)] rfl rfl (ads W3 _ _) (by intro y hy;simp at hy;rcases hy with rfl | rfl | rfl | rfl | rfl | rfl | rfl | rfl | rfl <;> rfl) (by decide) (by unfold maxLen;omega) (by omega) (by simp;omega) (W3.heap.size+1) (by simp) ?_))
     intro gg cc w9 I b hat atn;have Fv:=hid ((m.out.below ((aB4 W3.heap.size W3).alloc (aB2 _) (.cells #[.int .i64 (out:Nat),.int .i64 (T:Nat),.int .i64 (U:Nat),.int .i64 (V:Nat),.int .i64 (X:Nat),.int .i64 (Y:Nat),.int .i64 (Z:Nat),.int .i64 (y6:Nat),.int .i64 (y7:Nat)] 119))).grown b K.out (aY m.out.own z.out (by decide)));have Q5:=hid ((F.out.alloc (by omega) (.cells #[.int .i64 (out:Nat),.int .i64 (T:Nat),.int .i64 (U:Nat),.int .i64 (V:Nat),.int .i64 (X:Nat),.int .i64 (Y:Nat),.int .i64 (Z:Nat),.int .i64 (y6:Nat),.int .i64 (y7:Nat)] 119)).grown b (by simp;omega) (λq h=>(z.out.lt q h).1));have HO9:Hid (w9.ownsRow w.heap.size 119 9 (.slice (some ⟨gg,0,none⟩) (k+1) cc) (k+1) (gu (g++[⟨(out:Nat),[(T:Int),U,V,X,Y,Z,y6,y7]⟩]))):=hid (by
      rw[yR];exact I)
     have aun:Hid ((Value.slice (some ⟨gg,0,none⟩) (k+1) cc).ownBlock≠some (B+1)):=hid (by
      rcases hat with h | h
      ·have h2:=K.out;rw[h]at h2;exact h2
      ·subst h;simp[Value.ownBlock];omega)
     have hs9:W3.heap.size<w9.heap.size:=by
      have h4:=b.size;simp at h4;omega
     clear I b hat q0 q1 q2 q3 q4 q5 q6 q7 q8;go_wp2_with fail;go_roundw
     case rel=>exact⟨k+1,us,xs,v,_,by go_num,by omega,by omega,by simp[nN],x,QR,Fv,HO9,aun,Q5,by omega⟩
     case measure=>simp[intOf];omega
  ·obtain rfl:k=us.length:=by omega
   go_wp2_with fail;go_ret;exact⟨us,xs,g,_,rfl,x.out,Bb,nN,J.out,z.out,F.out⟩
structure VI (w:World) (g n:Nat) (out:Nat->Nat) (nx:Nat->Nat->Nat):Prop where
 lt:g<w.heap.size
 c0:∀ i,i<n->w.cell? ⟨g,i*9,none⟩=some (.int .i64 (out i:Nat))
 c:∀ i m,i<n->m<8->w.cell? ⟨g,i*9+1+m,none⟩=some (.int .i64 (nx i m:Nat))
theorem VI.below{B:Nat}{w w':World}{g n:Nat}{out:Nat->Nat}{nx:Nat->Nat->Nat}(h:VI w g n out nx)(hb:Below B w w')(hB:g<B):VI w' g n out nx:=
 ⟨aCq h.lt hb.size,λi hi=>(hb.cell (p:=⟨g,i*9,none⟩) hB).trans (h.c0 i hi),λi m hi hm=>(hb.cell (p:=⟨g,i*9+1+m,none⟩) hB).trans (h.c i m hi hm)⟩
theorem aaV(g n cap vd:Nat)(out:Nat->Nat)(nx:Nat->Nat->Nat)(w:World)(hn:n<=8589934592)(h:VI w g n out nx) :
  Calls Tryz.prog 141 #[.slice (some ⟨g,0,none⟩) n cap,.int .i64 (vd:Nat)] w λe w'=>∃ b:Bool,e=.returned (.bool b)/\(b=true↔∃ i,i<n/\out i=vd)/\Below w.heap.size w w':=by
 have p:=hid h;have q:=h.lt;clear h;go_enter Tryz.func141,Tryz.ntmps141;go_wp2_with fail
 go_loopw [9] (λi s=>∃ k:Nat,k<=n/\i=.int .i64 k/\Hid (∀ i,i<k->out i≠vd)/\Hid (Below w.heap.size w s)) (λi _=>n - (intOf i).toNat)
 case atStart=>exact⟨0,aCg _,rfl,hid (λi j=>by omega),hid (aB4 _ _)⟩
 case round=>
  obtain⟨k,u,rfl,m,d⟩:=hrel;rename World=>W0;by_cases a:k<n
  ·have r:=p.out.below d.out q;have v:=r.c0 k a;have x:W0.cell? ⟨g,k*9+1,none⟩=some (.int .i64 (nx k 0:Nat)):=r.c k 0 a (by omega);have y:W0.cell? ⟨g,k*9+2,none⟩=some (.int .i64 (nx k 1:Nat)):=r.c k 1 a (by omega);have z:W0.cell? ⟨g,k*9+3,none⟩=some (.int .i64 (nx k 2:Nat)):=r.c k 2 a (by omega);have A:W0.cell? ⟨g,k*9+4,none⟩=some (.int .i64 (nx k 3:Nat)):=r.c k 3 a (by omega);have B:W0.cell? ⟨g,k*9+5,none⟩=some (.int .i64 (nx k 4:Nat)):=r.c k 4 a (by omega);have C:W0.cell? ⟨g,k*9+6,none⟩=some (.int .i64 (nx k 5:Nat)):=r.c k 5 a (by omega);have D:W0.cell? ⟨g,k*9+7,none⟩=some (.int .i64 (nx k 6:Nat)):=r.c k 6 a (by omega);have E:W0.cell? ⟨g,k*9+8,none⟩=some (.int .i64 (nx k 7:Nat)):=r.c k 7 a (by omega);have o:=d.out.size;clear r;by_cases f:out k=vd
   ·have t:((out k:Int)==(vd:Int))=true:=by rw[beq_iff_eq];omega
    have l:=hid f;clear f;go_wp2_with fail;go_ret;exact⟨true,rfl,⟨λ_=>⟨k,a,l.out⟩,λ_=>rfl⟩,d.out.alloc o _⟩
   ·have t:((out k:Int)==(vd:Int))=false:=aCe.2 (by omega);have l:=hid f;clear f;go_wp2_with fail;go_roundw
    case rel=>
     refine⟨k+1,by omega,by go_num,hid (λi j=>?_),hid (d.out.alloc o _)⟩;by_cases e:i=k
     ·subst e;exact l.out
     ·exact m.out i (by omega)
    case measure=>simp[intOf];omega
  ·obtain rfl:k=n:=by omega
   go_wp2_with fail;go_ret;exact⟨false,rfl,⟨λh=>(by cases h),λ⟨i,j,h⟩=>absurd h (m.out i j)⟩,d.out⟩
structure CY (out:Nat->Nat) (nx:Nat->Nat->Nat) (vd i l:Nat) (tl:Nat->List (Nat × Nat)):Prop where
 mem:∀ t st,st∈tl t↔(8*st.1+st.2<8*i+l/\st.2<8)/\nx st.1 st.2=t/\out t≠vd
 len:∀ t,(tl t).length<=8*i+l
theorem aeq(out:Nat->Nat)(nx:Nat->Nat->Nat)(vd:Nat):CY out nx vd 0 0 (λ_=>[]):=⟨λt st=>by simp,λt=>by simp⟩
theorem aiI{out:Nat->Nat}{nx:Nat->Nat->Nat}{vd i:Nat}{tl:Nat->List (Nat × Nat)}(h:CY out nx vd i 8 tl):CY out nx vd (i+1) 0 tl:=
 ⟨λt st=>by rw[h.mem];constructor <;> rintro ⟨⟨a,b⟩,c⟩ <;> exact⟨⟨by omega,b⟩,c⟩,λt=>by have:=h.len t;omega⟩
theorem aiH{out:Nat->Nat}{nx:Nat->Nat->Nat}{vd i l:Nat}{tl:Nat->List (Nat × Nat)}(h:CY out nx vd i l tl)(hl:l<8)(hs:out (nx i l)=vd):CY out nx vd i (l+1) tl:=by
 refine⟨λt st=>?_,λt=>by have:=h.len t;omega⟩;rw[h.mem];constructor
 ·rintro ⟨⟨a,b⟩,c⟩;exact⟨⟨by omega,b⟩,c⟩
 ·rintro ⟨⟨a,b⟩,c,d⟩;refine⟨⟨?_,b⟩,c,d⟩;by_cases e:8*st.1+st.2=8*i+l
  ·have f:st.1=i:=by omega
   have g:st.2=l:=by omega
   rw[f,g]at c;rw[<-c]at d;exact absurd hs d
  ·omega
theorem aks{out:Nat->Nat}{nx:Nat->Nat->Nat}{vd i l:Nat}{tl:Nat->List (Nat × Nat)}(h:CY out nx vd i l tl)(hl:l<8)(hs:out (nx i l)≠vd):CY out nx vd i (l+1) (xU tl (nx i l) (tl (nx i l)++[(i,l)])):=by
 refine⟨λt st=>?_,λt=>?_⟩
 ·unfold xU;by_cases e:t=nx i l
  ·rw[aC2 e,aCG,h.mem];constructor
   ·rintro (⟨⟨a,b⟩,c,d⟩ | g)
    ·exact⟨⟨by omega,b⟩,by rw[e];exact c,by rw[e];exact d⟩
    ·simp at g;subst g;exact⟨⟨by simp only;omega,hl⟩,e.symm,by rw[e];exact hs⟩
   ·rintro ⟨⟨a,b⟩,c,d⟩;by_cases j:8*st.1+st.2=8*i+l
    ·right
     have f:st=(i,l):=Prod.ext (by simp only;omega) (by simp only;omega);simp[f]
    ·left
     exact⟨⟨by omega,b⟩,by rw[<-e];exact c,by rw[<-e];exact d⟩
  ·rw[aC1 e,h.mem];constructor
   ·rintro ⟨⟨a,b⟩,c⟩;exact⟨⟨by omega,b⟩,c⟩
   ·rintro ⟨⟨a,b⟩,c,d⟩;refine⟨⟨?_,b⟩,c,d⟩;by_cases j:8*st.1+st.2=8*i+l
    ·have f:st.1=i:=by omega
     have k:st.2=l:=by omega
     rw[f,k]at c;exact absurd c.symm e
    ·omega
 ·unfold xU;have:=h.len t;by_cases e:t=nx i l
  ·rw[aC2 e,aCd,aCv,<-e];omega
  ·rw[aC1 e];omega
theorem oU.abe{w:World}{T g2 n:Nat}{V:Nat->Value}{tl:Nat->List (Nat × Nat)}(h:oU w T g2 n V tl){b:Nat}(hb:b<g2)(o:Nat)(u:Value):oU (w.setCell ⟨b,o,none⟩ u) T g2 n V tl:=
 ⟨h.lt,by rw[aB8 _ ⟨b,o,none⟩ ⟨T,0,none⟩ _ (λq=>by have:=congrArg Addr.block q;have h2:=h.lt;simp at this;omega)];exact h.cell,aB h.out hb o u,λj hj=>aB (h.row j hj) (by have:=h.lt;omega) o u,h.sep⟩
theorem Tryz.afN:(Tryz.prog.info? 3).map (·.size)=some 1:=by kernel_rfl
theorem WJ(f:Nat->Nat){l:Nat}(hl:l<8)(W:World):(Instr.index 117 (.agg #[.int .i64 (f 0:Nat),.int .i64 (f 1:Nat),.int .i64 (f 2:Nat),.int .i64 (f 3:Nat),.int .i64 (f 4:Nat),.int .i64 (f 5:Nat),.int .i64 (f 6:Nat),.int .i64 (f 7:Nat)]) (.int .i64 (l:Nat))).run Tryz.prog W=.ok (.int .i64 (f l:Nat)) W:=by
 refine jh W Tryz.underlying117 (λw=>lC Tryz.underlying3 w) Tryz.afN hl ?_;have:l=0\/l=1\/l=2\/l=3\/l=4\/l=5\/l=6\/l=7:=by omega
 rcases this with rfl | rfl | rfl | rfl | rfl | rfl | rfl | rfl <;> rfl
theorem Wv(g n cap vd:Nat)(out:Nat->Nat)(nx:Nat->Nat->Nat)(w:World)(h0:0<n)(hn:n<=8589934592)(h:VI w g n out nx)(nC:∀ i l,i<n->l<8->nx i l<n) :
  Calls Tryz.prog 148 #[.slice (some ⟨g,0,none⟩) n cap,.int .i64 (vd:Nat)] w λe w'=>∃ g2 tl,e=.returned (.agg #[.slice (some ⟨g2,0,none⟩) n n])/\pF w' g2 n tl/\CY out nx vd n 0 tl/\Below w.heap.size w w':=by
 have I:=hid h;have J:=h.lt;have S:=hid nC;clear h nC;obtain⟨i0,K,U,X,Y⟩:=info_parts Tryz.Gj;go_enter Tryz.func148,Tryz.ntmps148;go_wp2_with (at_make;go_must (refine aCI _ rfl (.tmp 11) (.tmp 11) 157 rfl (w.heap.size+1) 222 i0 (.slice none 0 0) 1 Tryz.underlying157 K U X .i64 .i64 n n n rfl rfl rfl rfl ?m2 ?m3 (by simp) ?_))
 case m2=>rw[Y];omega
 case m3=>unfold maxLen;omega
 intro d L M;have N:(madeCells #[Value.slice none 0 0] n).toList=(List.range n).map (λ_=>Value.slice none 0 0):=by
  rw[aCy];exact(List.eq_replicate_iff.2 ⟨by simp,λb Z=>by obtain⟨_,_,rfl⟩:=aCU.1 Z;rfl⟩).symm
 have B:d.ownsRow (w.heap.size+1) 222 1 (.slice (some ⟨w.heap.size+1,0,none⟩) n n) n ((List.range n).map (λ_=>Value.slice none 0 0)):=by
  rw[<-N];exact L
 have C:w.heap.size+1<d.heap.size:=(B.lt _ rfl).2;have z:=((aB4 (w.heap.size+1) (w.alloc (.cells #[.slice none 0 0] 159))).grown M (by simp) (λk h=>by cases h));have O:d.cell? ⟨w.heap.size,0,none⟩=some (.slice none 0 0):=(z.cell (p:=⟨w.heap.size,0,none⟩) (by show w.heap.size<w.heap.size+1;omega)).trans (by simp);have P:d.frozen? ⟨w.heap.size,0,none⟩=false:=(z.frozen (p:=⟨w.heap.size,0,none⟩) (by show w.heap.size<w.heap.size+1;omega)).trans (by simp);have Q:Hid (Below w.heap.size w d):=hid (((aB4 w.heap.size w).alloc (aB2 _) (.cells #[.slice none 0 0] 159)).trans (z.mono (by omega)));have M1:Hid (oU (d.alloc (.cells #[.slice (some ⟨w.heap.size+1,0,none⟩) n n] 159)) d.heap.size (w.heap.size+1) n (λ_=>.slice none 0 0) (λ_=>[])):=hid ⟨C,by simp,B.alloc _,λj hj=>aCp _ _ _ _,λi j K hj h=>aCa rfl⟩;have QS:Hid ((d.alloc (.cells #[.slice (some ⟨w.heap.size+1,0,none⟩) n n] 159)).cell? ⟨w.heap.size,0,none⟩=some (.slice none 0 0)/\(d.alloc (.cells #[.slice (some ⟨w.heap.size+1,0,none⟩) n n] 159)).frozen? ⟨w.heap.size,0,none⟩=false):=hid ⟨by rw[aCB _ _ _ (by show w.heap.size<d.heap.size;omega)];exact O,by rw[aCS _ _ _ (by show w.heap.size<d.heap.size;omega)];exact P⟩;have aM:=hid (Q.out.alloc (by omega) (.cells #[.slice (some ⟨w.heap.size+1,0,none⟩) n n] 159));clear L M N B z O P Q;go_wp2_with fail;generalize d.heap.size=T at *
 go_loopw [16] (λi q=>∃ (k:Nat) (V:Nat->Value) (tl:Nat->List (Nat × Nat)),k<=n/\i=.int .i64 k/\Hid (CY out nx vd k 0 tl)/\Hid (oU q T (w.heap.size+1) n V tl)/\Hid (q.cell? ⟨w.heap.size,0,none⟩=some (.slice none 0 0)/\q.frozen? ⟨w.heap.size,0,none⟩=false)/\Hid (Below w.heap.size w q)) (λi _=>n - (intOf i).toNat)
 case atStart=>exact⟨0,_,_,by omega,rfl,hid (aeq out nx vd),M1,QS,aM⟩
 case round=>
  obtain⟨k,V,tl,hk,rfl,s,m,f,o⟩:=hrel;rename World=>W0;have CR:=m.out.Yx;by_cases a:k<n
  ·have r:=I.out.below o.out J;have q0:=r.c0 k a;have q1:W0.cell? ⟨g,k*9+1,none⟩=some (.int .i64 (nx k 0:Nat)):=r.c k 0 a (by omega);have q2:W0.cell? ⟨g,k*9+2,none⟩=some (.int .i64 (nx k 1:Nat)):=r.c k 1 a (by omega);have q3:W0.cell? ⟨g,k*9+3,none⟩=some (.int .i64 (nx k 2:Nat)):=r.c k 2 a (by omega);have q4:W0.cell? ⟨g,k*9+4,none⟩=some (.int .i64 (nx k 3:Nat)):=r.c k 3 a (by omega);have q5:W0.cell? ⟨g,k*9+5,none⟩=some (.int .i64 (nx k 4:Nat)):=r.c k 4 a (by omega);have q6:W0.cell? ⟨g,k*9+6,none⟩=some (.int .i64 (nx k 5:Nat)):=r.c k 5 a (by omega);have q7:W0.cell? ⟨g,k*9+7,none⟩=some (.int .i64 (nx k 6:Nat)):=r.c k 6 a (by omega);have q8:W0.cell? ⟨g,k*9+8,none⟩=some (.int .i64 (nx k 7:Nat)):=r.c k 7 a (by omega);have hs:=o.out.size;clear r;have t:=hid ((aB4 W0.heap.size W0).alloc (aB2 _) (.cells #[.int .i64 (out k:Nat),.int .i64 (nx k 0:Nat),.int .i64 (nx k 1:Nat),.int .i64 (nx k 2:Nat),.int .i64 (nx k 3:Nat),.int .i64 (nx k 4:Nat),.int .i64 (nx k 5:Nat),.int .i64 (nx k 6:Nat),.int .i64 (nx k 7:Nat)] 119));have JP:=hid (m.out.keeps t.out);have jD:=hid (And.intro ((t.out.cell (p:=⟨w.heap.size,0,none⟩) (by show w.heap.size<W0.heap.size;omega)).trans f.out.1) ((t.out.frozen (p:=⟨w.heap.size,0,none⟩) (by show w.heap.size<W0.heap.size;omega)).trans f.out.2));have bF:=hid (o.out.trans (t.out.mono hs));clear t m f;go_wp2_with fail;clear q0 q1 q2 q3 q4 q5 q6 q7 q8
   go_loopw [23] (λi q=>∃ (l:Nat) (V:Nat->Value) (tl:Nat->List (Nat × Nat)),l<=8/\i=.int .i64 l/\Hid (CY out nx vd k l tl)/\Hid (oU q T (w.heap.size+1) n V tl)/\Hid (q.cell? ⟨w.heap.size,0,none⟩=some (.slice none 0 0)/\q.frozen? ⟨w.heap.size,0,none⟩=false)/\Hid (Below w.heap.size w q)) (λi _=>8 - (intOf i).toNat)
   case atStart=>exact⟨0,V,tl,by omega,rfl,s,JP,jD,bF⟩
   case round=>
    obtain⟨l,V,tl,hl,rfl,s,m,f,o⟩:=hrel;rename World=>W3;by_cases u:l<8
    ·have ix:=λW=>WJ (nx k) u W;have v:=S.out k l a u;have co:=(I.out.below o.out J).c0 (nx k l) v;have D:=hid (s.out.len (nx k l));have dk:decide (n<=nx k l)=false:=by simp;omega
     by_cases x:out (nx k l)=vd
     ·have qb:=hid (aiH s.out u x);have ke:((out (nx k l):Int) !=(vd:Int))=false:=by rw[x];simp
      clear x;generalize out (nx k l)=ov at *;generalize nx k l=to at *;go_wp2_with fail;go_roundw
      case rel=>exact⟨l+1,V,tl,by omega,by go_num,qb,m,f,o⟩
      case measure=>simp[intOf];omega
     ·have Q7:=hid (aks s.out u x);have ke:((out (nx k l):Int) !=(vd:Int))=true:=by rw[bne_iff_ne];omega
      have R:=hid (RO T (w.heap.size+1) n k l (nx k l) V tl W3 m.out (by omega) a u v (by have:=D.out;omega));clear x;generalize out (nx k l)=ov at *;generalize nx k l=to at *;go_wp2_with fail;refine R.out.mono ?_;rintro e w5 ⟨rfl,⟨V5,y⟩,A⟩;have E:=hid y;have F:=hid (And.intro ((A.cell (p:=⟨w.heap.size,0,none⟩) (by show w.heap.size<w.heap.size+1;omega)).trans f.out.1) ((A.frozen (p:=⟨w.heap.size,0,none⟩) (by show w.heap.size<w.heap.size+1;omega)).trans f.out.2));have fH:=hid (o.out.trans (A.mono (by omega)));clear y A R m f o;go_wp2_with fail;go_roundw
      case rel=>exact⟨l+1,V5,_,by omega,by go_num,Q7,E,F,fH⟩
      case measure=>simp[intOf];omega
    ·obtain rfl:l=8:=by omega
     have G:=hid (aiI s.out);go_wp2_with fail;go_roundw
     case rel=>exact⟨k+1,V,tl,by omega,by go_num,G,m,f,o⟩
     case measure=>simp[intOf];omega
  ·obtain rfl:k=n:=by omega
   have c1:=m.out.cell;have r0:=f.out.1;have r1:=f.out.2;have H:=hid (m.out.abe (b:=w.heap.size) (by omega) 0 (.slice (some ⟨w.heap.size+1,0,none⟩) k k)).ways;have dW:=hid (o.out.setCell (p:=⟨w.heap.size,0,none⟩) (aB2 _) (.slice (some ⟨w.heap.size+1,0,none⟩) k k));have IL:Hid ((W0.setCell ⟨w.heap.size,0,none⟩ (.slice (some ⟨w.heap.size+1,0,none⟩) k k)).cell? ⟨w.heap.size,0,none⟩=some (.slice (some ⟨w.heap.size+1,0,none⟩) k k)):=hid (aCz _ _ _ r0);go_wp2_with fail;refine J7 Tryz.results148 ?_ ?_ IL.out ?_
   ·rfl
   ·rfl
   ·exact⟨_,tl,rfl,H.out,s.out,dW.out⟩
theorem aiG{out:Nat->Nat}{nx:Nat->Nat->Nat}{vd n:Nat}{tl:Nat->List (Nat × Nat)}(h:CY out nx vd n 0 tl)(hn:n<=8589934592):vW n tl:=
 ⟨hn,λt ht st hs=>by obtain⟨⟨a,b⟩,_⟩:=(h.mem t st).1 hs;exact⟨by omega,b⟩,λt ht=>by have:=h.len t;omega⟩
def EvP(ns:List Nd)(cs:List (Nat->Bool))(aJ:Nat->Bool)(out:Nat->Nat)(nx:Nat->Nat->Nat)(n vd:Nat)(hd b:Bool):Prop:=
 ∃ tl,CY out nx vd n 0 tl/\(b=true↔∃ v,v<256/\iQ (Ew n ns tl) (spreads cs) v/\aJ v=hd)
theorem Mt(P g n cap vd:Nat)(hd:Bool)(ns:List Nd)(aa aJ:Nat->Bool)(cs:List (Nat->Bool))(out:Nat->Nat)(nx:Nat->Nat->Nat)(w:World)(h8:ns.length<=8)(h0:0<n)(hn:n<=8589934592)(ho:vZ w P ns aa aJ)(hcm:pK w P cs)(hcl:cs.length<=8)(h:VI w g n out nx)(nC:∀ i l,i<n->l<8->nx i l<n) :
  Calls Tryz.prog 140 #[.pointer (some ⟨P,0,none⟩),.slice (some ⟨g,0,none⟩) n cap,.int .i64 (vd:Nat),.bool hd] w λe w'=>∃ b:Bool,e=.returned (.bool b)/\EvP ns cs aJ out nx n vd hd b/\Below w.heap.size w w':=by
 have j:=ho.lt;have E:=hid ho;have R:=hid hcm;have F:=hid (Wv g n cap vd out nx w h0 hn h nC);clear ho hcm h nC;have kn:((n:Int)==0)=false:=aCe.2 (by omega);go_enter Tryz.func140,Tryz.ntmps140;go_wp2_with fail;refine F.out.mono ?_;rintro e G ⟨k,m,rfl,H,a,o⟩;have p:=hid a;have q:=o.size;have I:=hid (H.below ((aB4 G.heap.size G).alloc (aB2 _) (.cells #[.slice (some ⟨k,0,none⟩) n n] 159)));have d:=hid (o.alloc q (.cells #[.slice (some ⟨k,0,none⟩) n n] 159));clear H a o F;go_wp2_with fail;refine(BS P k n n ns m cs _ h8 (aiG p.out hn) (λx N S T=>(E.out.below d.out j).gF x N S T) (by simp;omega) (R.out.below d.out j) hcl I.out).mono ?_;rintro e J ⟨K,f,rfl,U,Uv,r,L,s⟩;simp only[aB7]at s U;have y:=hid (d.out.trans (s.mono (by omega)));have r:Hid (bE J K 0 f):=hid (by have:=r.z8 (t:=0) (by omega);simpa using this);have M:=hid L;have z:=hid (E.out.below y.out j);clear s L d I;go_wp2_with (refine aN rfl (.tmp 23) rfl K 0 f rfl r.out ?_)
 go_loopw [25] (λi V=>∃ v:Nat,v<=256/\i=.int .i64 v/\V=J/\Hid (∀ u,u<v->¬ (f u=true/\aJ u=hd))) (λi _=>256 - (intOf i).toNat)
 case atStart=>exact⟨0,by omega,rfl,rfl,hid (λu O=>by omega)⟩
 case round=>
  obtain⟨v,hv,rfl,rfl,A⟩:=hrel;by_cases B:v<256
  ·have Q:=λW=>tq f B W;have cb:=z.out.aJ.c v B;cases hf:f v with
   | false=>
    rw[hf]at Q;have C:=hid hf;clear hf;go_wp2_with fail;go_roundw
    case rel=>exact⟨v+1,by omega,by go_num,trivial,hid (λu O h=>by
     by_cases e:u=v
     ·subst e;rw[C.out]at h;cases h.1
     ·exact A.out u (by omega) h)⟩
    case measure=>simp[intOf];omega
   | true=>
    rw[hf]at Q;have C:=hid hf;clear hf;cases he:(aJ v==hd) with
    | true=>
     have D:=hid (beq_iff_eq.1 he);go_wp2_with fail;go_ret;exact⟨true,rfl,⟨m,p.out,⟨λ_=>⟨v,B,(M.out v).1 C.out,D.out⟩,λ_=>rfl⟩⟩,y.out⟩
    | false=>
     have D:=hid (aCe.1 he);go_wp2_with fail;go_roundw
     case rel=>exact⟨v+1,by omega,by go_num,trivial,hid (λu O h=>by
      by_cases e:u=v
      ·subst e;exact D.out h.2
      ·exact A.out u (by omega) h)⟩
     case measure=>simp[intOf];omega
  ·obtain rfl:v=256:=by omega
   go_wp2_with fail;go_ret;exact⟨false,rfl,⟨m,p.out,⟨λh=>(by cases h),λ⟨v,X,Y,Z⟩=>absurd ⟨(M.out v).2 Y,Z⟩ (A.out v X)⟩⟩,y.out⟩
