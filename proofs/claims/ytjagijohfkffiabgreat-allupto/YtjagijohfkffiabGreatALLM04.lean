import Derived.Test.YtjagijohfkffiabGreatALLM03
set_option maxHeartbeats 16000000
set_option maxRecDepth 100000
set_option linter.unusedSimpArgs false
namespace Go.Proofs.YtjagijohfkffiabGreat
def az(ps:List (Nat × Nat))(i:Nat):Nat:=(ps.getD i (0,0)).2
def dA(ps:List (Nat × Nat))(i:Nat):Nat:=(ps.getD i (0,0)).1
def uo(n:Nd)(k:Nat)(p:Nat × Nat)(N:Nat):Nat:=uP p.2 k (bg n.op p.1 (p.2.testBit n.l) (p.2.testBit n.r) (N.testBit k) (N.testBit n.l))
def bK(n:Nd)(k:Nat)(N:Nat):List (Nat × Nat)->List (Nat × Nat) × Nat
 | []=>([],N)
 | p::ps=>((p.1,uo n k p (bK n k N ps).2)::(bK n k N ps).1,uo n k p (bK n k N ps).2)
def df(n:Nd)(k:Nat)(ps:List (Nat × Nat)):List (Nat × Nat):=ps.map λp=>(p.1,uP p.2 k (lK n.op))
def tF(n:Nd)(k back:Nat)(ps:List (Nat × Nat)):List (Nat × Nat):=
 (bK n k (az (bK n k (az (df n k ps) back) (df n k ps)).1 back) (bK n k (az (df n k ps) back) (df n k ps)).1).1
theorem oV(n:Nd)(k N:Nat)(ps:List (Nat × Nat)):(bK n k N ps).1.length=ps.length:=by
 induction ps with
 | nil=>rfl
 | cons p ps ih=>simp[bK,ih]
theorem kL(n:Nd)(k:Nat)(ps:List (Nat × Nat)):(df n k ps).length=ps.length:=by simp[df]
theorem Qv(n:Nd)(k back:Nat)(ps:List (Nat × Nat)):(tF n k back ps).length=ps.length:=by
 unfold tF;rw[oV,oV,kL]
theorem sK(p:Nat × Nat)(ps:List (Nat × Nat))(i:Nat):az (p::ps) (i+1)=az ps i:=by simp[az]
theorem yM(p:Nat × Nat)(ps:List (Nat × Nat))(i:Nat):dA (p::ps) (i+1)=dA ps i:=by simp[dA]
theorem Jm(n:Nd)(k N:Nat)(ps:List (Nat × Nat)):(bK n k N ps).2=if 0<ps.length then az (bK n k N ps).1 0 else N:=by
 cases ps with
 | nil=>rfl
 | cons p ps=>simp[bK,az]
theorem yH(n:Nd)(k N:Nat)(ps:List (Nat × Nat))(i:Nat):dA (bK n k N ps).1 i=dA ps i:=by
 induction ps generalizing i with
 | nil=>rfl
 | cons p ps ih=>
  cases i with
  | zero=>simp[bK,dA]
  | succ i=>simp only[bK];rw[yM,yM];exact ih i
theorem BM(n:Nd)(k N:Nat)(ps:List (Nat × Nat))(i:Nat)(hi:i<ps.length) :
  az (bK n k N ps).1 i=uo n k (dA ps i,az ps i) (if i+1<ps.length then az (bK n k N ps).1 (i+1) else N):=by
 induction ps generalizing i with
 | nil=>simp at hi
 | cons p ps ih=>
  cases i with
  | zero=>
   have e:=Jm n k N ps;simp only[bK];rw[sK,show (if 0+1<(p::ps).length then az (bK n k N ps).1 0 else N)=(bK n k N ps).2 by rw[e];simp];simp[az,dA]
  | succ i=>
   simp only[bK];rw[sK,sK,sK,yM,ih i (by simpa using hi)];simp
def mV(ps:List (Nat × Nat)):Prop:=∀ i,dA ps i<8/\az ps i<256
theorem Yj{ps:List (Nat × Nat)}(h:∀ p∈ps,p.1<8/\p.2<256):mV ps:=by
 intro i;unfold dA az;rw[List.getD];cases e:ps[i]? with
 | none=>simp
 | some p=>simpa using h p (aCJ e)
theorem qd{n:Nd}{k N:Nat}{ps:List (Nat × Nat)}(hk:k<8)(hf:mV ps):mV (bK n k N ps).1:=by
 intro i;rw[yH];refine⟨(hf i).1,?_⟩;by_cases a:i<ps.length
 ·rw[BM n k N ps i a];exact KT (hf i).2 hk
 ·unfold az;rw[List.getD,List.getElem?_eq_none (by rw[oV];omega)];simp
theorem FK(n:Nd)(k:Nat)(ps:List (Nat × Nat))(i:Nat):dA (df n k ps) i=dA ps i:=by
 simp only[dA,df,List.getD,aCs];cases ps[i]? <;> rfl
theorem Dw(n:Nd)(k:Nat)(ps:List (Nat × Nat))(i:Nat)(hi:i<ps.length):az (df n k ps) i=uP (az ps i) k (lK n.op):=by
 simp only[az,df,List.getD,aCs,aB3 hi];rfl
theorem rF{n:Nd}{k:Nat}{ps:List (Nat × Nat)}(hk:k<8)(hf:mV ps):mV (df n k ps):=by
 intro i;rw[FK];refine⟨(hf i).1,?_⟩;by_cases a:i<ps.length
 ·rw[Dw n k ps i a];exact KT (hf i).2 hk
 ·unfold az;rw[List.getD,List.getElem?_eq_none (by rw[kL];omega)];simp
theorem agu(n:Nd)(k back:Nat)(ps:List (Nat × Nat))(i:Nat):dA (tF n k back ps) i=dA ps i:=by
 unfold tF;rw[yH,yH,FK]
theorem Qu{n:Nd}{k back:Nat}{ps:List (Nat × Nat)}(hk:k<8)(hf:mV ps):mV (tF n k back ps):=
 qd hk (qd hk (rF hk hf))
theorem xe{n:Nd}{k N j:Nat}{ps:List (Nat × Nat)}(hk:k<8)(hj:j<8)(hne:j≠k)(hf:mV ps)(i:Nat)(hi:i<ps.length):(az (bK n k N ps).1 i).testBit j=(az ps i).testBit j:=by
 rw[BM n k N ps i hi,uo,wF (hf i).2 hk hj,aC1 hne]
theorem KW{n:Nd}{k N:Nat}{ps:List (Nat × Nat)}(hk:k<8)(hf:mV ps)(i:Nat)(hi:i<ps.length) :
  (az (bK n k N ps).1 i).testBit k=bg n.op (dA ps i) ((az ps i).testBit n.l) ((az ps i).testBit n.r) ((if i+1<ps.length then az (bK n k N ps).1 (i+1) else N).testBit k) ((if i+1<ps.length then az (bK n k N ps).1 (i+1) else N).testBit n.l):=by
 rw[BM n k N ps i hi,uo,wF (hf i).2 hk hk,aC2 rfl]
theorem Jn{n:Nd}{k j:Nat}{ps:List (Nat × Nat)}(hk:k<8)(hj:j<8)(hne:j≠k)(hf:mV ps)(i:Nat)(hi:i<ps.length):(az (df n k ps) i).testBit j=(az ps i).testBit j:=by
 rw[Dw n k ps i hi,wF (hf i).2 hk hj,aC1 hne]
theorem aam{n:Nd}{k back j:Nat}{ps:List (Nat × Nat)}(hk:k<8)(hj:j<8)(hne:j≠k)(hf:mV ps)(i:Nat)(hi:i<ps.length):(az (tF n k back ps) i).testBit j=(az ps i).testBit j:=by
 unfold tF;rw[xe hk hj hne (qd hk (rF hk hf)) i (by rw[oV,kL];exact hi),xe hk hj hne (rF hk hf) i (by rw[kL];exact hi),Jn hk hj hne hf i hi]
def aax(n back:Nat)(lt:Nat->Nat)(ns:List Nd)(ps:List (Nat × Nat)):Prop:=
 ps.length=n/\mV ps/\(∀ i,i<n->dA ps i=lt i)/\∀ i,i<n->∀ k,k<ns.length->((az ps i).testBit k=true↔d9 (aU n back) lt ns k i)
theorem Y2{n back:Nat}{lt:Nat->Nat}{ns:List Nd}{ps:List (Nat × Nat)}(hb:back<n)(h:aax n back lt ns ps)(nd:Nd)(hm:ns.length<8)
  (hw1:bG nd.op=false->nd.l<ns.length) (hw2:bU nd.op=true->nd.r<ns.length) (hop:bG nd.op=true\/eF nd.op=true\/bU nd.op=true) :
  aax n back lt (ns++[nd]) (tF nd ns.length back ps):=by
 obtain⟨q,v,y,w⟩:=h;refine⟨by rw[Qv];exact q,Qu hm v,λi a=>by rw[agu];exact y i a,?_⟩;intro i a k J;by_cases E:k<ns.length
 ·rw[aam hm (by omega) (by omega) v i (by omega),ajg E];exact w i a k E
 have K:k=ns.length:=by simp at J;omega
 subst K;rw[Xw]
 -- the three tables
 have A:=rF (n:=nd) hm v;have L:=kL nd ns.length ps;have H:=qd (n:=nd) (N:=az (df nd ns.length ps) back) hm A;have I:=oV nd ns.length (az (df nd ns.length ps) back) (df nd ns.length ps);have t:∀ j,j<ns.length->∀ i,i<n->(az (df nd ns.length ps) i).testBit j=(az ps i).testBit j:=λj p i a=>Jn hm (by omega) (by omega) v i (by omega);have z:(az (df nd ns.length ps) back).testBit ns.length=lK nd.op:=by rw[Dw _ _ _ _ (by omega),wF (v _).2 hm hm,aC2 rfl]
 have M:∀ i,dA (df nd ns.length ps) i=dA ps i:=FK _ _ _;have u:=λi (a:i<n)=>KW (n:=nd) (N:=az (df nd ns.length ps) back) hm A i (by omega);have f:∀ j,j<ns.length->∀ i,i<n->(az (bK nd ns.length (az (df nd ns.length ps) back) (df nd ns.length ps)).1 i).testBit j=(az ps i).testBit j:=λj p i a=>(xe hm (by omega) (by omega) A i (by omega)).trans (t j p i a);have C:∀ i,dA (bK nd ns.length (az (df nd ns.length ps) back) (df nd ns.length ps)).1 i=dA ps i:=λi=>(yH _ _ _ _ i).trans (M i);have O:tF nd ns.length back ps=(bK nd ns.length (az (bK nd ns.length (az (df nd ns.length ps) back) (df nd ns.length ps)).1 back) (bK nd ns.length (az (df nd ns.length ps) back) (df nd ns.length ps)).1).1:=rfl;rw[O];generalize df nd ns.length ps=p0 at *;generalize (bK nd ns.length (az p0 back) p0).1=p1 at *;have c:=λi (a:i<n)=>KW (n:=nd) (N:=az p1 back) hm H i (by omega);have P:∀ j,j<ns.length->∀ i,i<n->(az (bK nd ns.length (az p1 back) p1).1 i).testBit j=(az ps i).testBit j:=λj p i a=>(xe hm (by omega) (by omega) H i (by omega)).trans (f j p i a);generalize (bK nd ns.length (az p1 back) p1).1=p2 at *;rw[L]at I u;rw[I]at c;rw[q]at u c
 -- the rows below
 have B:∀ j,j<ns.length->∀ i,i<n->((az ps i).testBit j=true↔(rows (aU n back) lt ns).getD j (λ_=>False) i):=λj p i a=>w i a j p;have Q:∀ j,j<ns.length->∀ i,i<n->(if i+1<n then az p2 (i+1) else az p1 back).testBit j=(az ps (aU n back i)).testBit j:=by
  intro j p i a;unfold aU
  split
  ·exact P j p _ (by omega)
  ·exact f j p _ hb
 have S:=Tw (i:=i) hb;unfold mH;rcases hop with hop | hop | hop
 ·rcases mZ hop with e | e | e | e | e
  ·simp[e]at c ⊢;rw[c i a];simp[bg]
  ·simp[e]at c ⊢;rw[c i a];simp[bg]
  ·simp[e]at c ⊢;rw[c i a,C,y i a];simp[bg]
  ·simp[e]at c ⊢;rw[c i a,C,y i a];simp[bg]
  ·simp[e]at c ⊢;rw[c i a,C,y i a];simp[bg]
 ·have b:=hw1 (kW hop);rcases pQ hop with e | e | e | e
  ·simp only[e]at c ⊢;rw[c i a,f _ b i a];simp[bg,<-B _ b i a]
  ·simp only[e]at c ⊢;rw[c i a,Q _ b i a];simp[bg,<-B _ b _ S]
  ·-- F
   have d:=xc hb (λ_=>true) (λi=>(az ps i).testBit nd.l) (λi=>(az p1 i).testBit ns.length) (λi=>(az p2 i).testBit ns.length)
    (λi a=>by
     have:=u i a;rw[e,t _ b i a]at this;simp only[bg]at this;simp only[Nat.reduceEqDiff,if_false,if_true]at this;rw[this]
     split
     ·simp
     ·rw[z,e];simp[lK])
    (λi a=>by
     have:=c i a;rw[e,f _ b i a]at this;simp only[bg]at this;simp only[Nat.reduceEqDiff,if_false,if_true]at this;rw[this]
     split <;> simp) i a
   simp only[e,Nat.reduceEqDiff,if_false,if_true];rw[d];unfold UU;constructor
   ·rintro ⟨s,o,_⟩;exact⟨s,(B _ b _ (lW hb s i a)).1 o⟩
   ·rintro ⟨s,o⟩;exact⟨s,(B _ b _ (lW hb s i a)).2 o,λ_ _=>rfl⟩
  ·-- G
   have d:=xc hb (λ_=>true) (λi=>!(az ps i).testBit nd.l) (λi=>!(az p1 i).testBit ns.length) (λi=>!(az p2 i).testBit ns.length)
    (λi a=>by
     have:=u i a;rw[e,t _ b i a]at this;simp only[bg]at this;simp only[Nat.reduceEqDiff,if_false,if_true]at this;rw[this]
     split
     ·simp
     ·rw[z,e];simp[lK])
    (λi a=>by
     have:=c i a;rw[e,f _ b i a]at this;simp only[bg]at this;simp only[Nat.reduceEqDiff,if_false,if_true]at this;rw[this]
     split <;> simp) i a
   simp only[e,Nat.reduceEqDiff,if_false,if_true];have D:(az p2 i).testBit ns.length=true↔¬ UU (aU n back) (λ_=>true=true) (λi=>(!(az ps i).testBit nd.l)=true) i:=by
    rw[<-d];simp
   rw[D];unfold UU;constructor
   ·intro h s;rw[<-B _ b _ (lW hb s i a)];cases hc:(az ps (it (aU n back) s i)).testBit nd.l with
    | true=>rfl
    | false=>exact absurd ⟨s,by simp[hc],λ_ _=>rfl⟩ h
   ·rintro h ⟨s,o,_⟩;have:=(B _ b _ (lW hb s i a)).2 (h s);simp[this]at o
 ·have b:=hw1 (nS hop);have g:=hw2 hop;rcases lJ hop with e | e | e | e
  ·simp only[e]at c ⊢;rw[c i a,f _ b i a,f _ g i a];simp[bg,<-B _ b i a,<-B _ g i a]
  ·simp only[e]at c ⊢;rw[c i a,f _ b i a,f _ g i a];simp[bg,<-B _ b i a,<-B _ g i a]
  ·-- U
   have d:=xc hb (λi=>(az ps i).testBit nd.l) (λi=>(az ps i).testBit nd.r) (λi=>(az p1 i).testBit ns.length) (λi=>(az p2 i).testBit ns.length)
    (λi a=>by
     have:=u i a;rw[e,t _ b i a,t _ g i a]at this;simp only[bg]at this;simp only[Nat.reduceEqDiff,if_false,if_true]at this;rw[this]
     split
     ·rfl
     ·rw[z,e];simp[lK])
    (λi a=>by
     have:=c i a;rw[e,f _ b i a,f _ g i a]at this;simp only[bg]at this;simp only[Nat.reduceEqDiff,if_false,if_true]at this;rw[this]
     split <;> rfl) i a
   simp only[e,Nat.reduceEqDiff,if_false,if_true];rw[d];unfold UU;constructor
   ·rintro ⟨s,o,x⟩;exact⟨s,(B _ g _ (lW hb s i a)).1 o,λm hm=>(B _ b _ (lW hb m i a)).1 (x m hm)⟩
   ·rintro ⟨s,o,x⟩;exact⟨s,(B _ g _ (lW hb s i a)).2 o,λm hm=>(B _ b _ (lW hb m i a)).2 (x m hm)⟩
  ·-- R
   have d:=xc hb (λi=>!(az ps i).testBit nd.l) (λi=>!(az ps i).testBit nd.r) (λi=>!(az p1 i).testBit ns.length) (λi=>!(az p2 i).testBit ns.length)
    (λi a=>by
     have:=u i a;rw[e,t _ b i a,t _ g i a]at this;simp only[bg]at this;simp only[Nat.reduceEqDiff,if_false,if_true]at this;rw[this]
     split
     ·simp
     ·rw[z,e];simp[lK])
    (λi a=>by
     have:=c i a;rw[e,f _ b i a,f _ g i a]at this;simp only[bg]at this;simp only[Nat.reduceEqDiff,if_false,if_true]at this;rw[this]
     split <;> simp) i a
   simp only[e,Nat.reduceEqDiff,if_false,if_true];have D:(az p2 i).testBit ns.length=true↔¬ UU (aU n back) (λi=>(!(az ps i).testBit nd.l)=true) (λi=>(!(az ps i).testBit nd.r)=true) i:=by
    rw[<-d];simp
   rw[D];unfold UU;constructor
   ·intro h s;cases hc:(az ps (it (aU n back) s i)).testBit nd.r with
    | true=>exact aCa ((B _ g _ (lW hb s i a)).1 hc)
    | false=>
     refine aCb ?_;refine aCx λT=>h ⟨s,by simp[hc],λm hm=>?_⟩;cases hd:(az ps (it (aU n back) m i)).testBit nd.l with
     | false=>simp[hd]
     | true=>exact absurd ⟨m,hm,(B _ b _ (lW hb m i a)).1 hd⟩ T
   ·rintro h ⟨s,o,x⟩;rcases h s with h3 | ⟨m,hm,h3⟩
    ·have:=(B _ g _ (lW hb s i a)).2 h3;simp[this]at o
    ·have V:=x m hm;have:=(B _ b _ (lW hb m i a)).2 h3;simp[this]at V
open Go.RowKit
set_option linter.unusedVariables false
def mD(b:Nat):Value:=.pointer (some ⟨b,0,none⟩)
def lV(bs:List Nat)(n:Nd):Option Addr:=if bG n.op then none else some ⟨bs.getD n.l 0,0,none⟩
def lT(bs:List Nat)(n:Nd):Option Addr:=if bU n.op then some ⟨bs.getD n.r 0,0,none⟩ else none
def bR(bs:List Nat)(i:Nat)(n:Nd):Obj:=.cells #[.int .u8 n.op,.pointer (lV bs n),.pointer (lT bs n),.int .i64 i] 204 (0,0)
theorem World.cell?_alloc_here(w:World)(c:Array Value)(t:TypeId)(n i:Nat)(h:n=w.heap.size):(w.alloc (.cells c t)).cell? ⟨n,i,none⟩=c[i]?:=by
 subst h;simp
structure Fm (w:World) (F:Nat) (ns:List Nd) (bs:List Nat):Prop where
 c0:∃ ao cap,w.cell? ⟨F,0,none⟩=some (.slice ao ns.length cap)/\w.ownsRow (F+1) 127 1 (.slice ao ns.length cap) ns.length (bs.map mD)
 f0:w.frozen? ⟨F,0,none⟩=false
 len:bs.length=ns.length
 wf:Wf ns
 parts:∀ (i:Nat) (n:Nd),ns[i]?=some n->∃ b,bs[i]?=some b/\F<b/\w.heap[b]?=some (bR bs i n)
def Kp(F:Nat)(w w':World):Prop:=∀ (q:Nat) (c:Array Value) (T:TypeId),w.heap[q]?=some (.cells c T (0,0))->T≠127->q≠F->w'.heap[q]?=some (.cells c T (0,0))
theorem dC{w:World}{q:Nat}{o:Obj}(h:w.heap[q]?=some o):q<w.heap.size:=(aCu.1 h).1
theorem Kp.trans{F:Nat}{a b c:World}(h:Kp F a b)(k:Kp F b c):Kp F a c:=λq x T h1 h2 h3=>k q x T (h q x T h1 h2 h3) h2 h3
theorem Kp.alloc(F:Nat)(w:World)(o:Obj):Kp F w (w.alloc o):=λq c T h _ _=>by rw[aCt w o q (dC h)];exact h
theorem Kp.set{F:Nat}{a w:World}(h:Kp F a w){P:Nat}(hP:a.heap.size<=P\/P=F)(j:Nat)(v:Value):Kp F a (w.setCell ⟨P,j,none⟩ v):=λq c T h1 h2 h3=>by
 have:=dC h1;rw[aCD _ _ _ _ (by show q≠P;omega)];exact h q c T h1 h2 h3
theorem Kp.grown{F:Nat}{w w':World}{v:Value}{n:Nat}{xs:List Value}(own:w.ownsRow (F+1) 127 1 v n xs)(hg:w.grownBy w' v.ownBlock):Kp F w w':=λq c T h1 h2 h3=>by
 rw[hg.block q (dC h1) (λe=>?_)]
 ·exact h1
 ·rcases own.2 with⟨hv,_⟩ | ⟨g,cap,cur,hv,_,hh,_⟩
  ·rw[hv]at e;simp[Value.ownBlock]at e
  ·rw[hv]at e;simp[Value.ownBlock]at e;subst e;rw[h1]at hh;simp at hh;exact h2 hh.2
theorem wL{w:World}{B e:Nat}{size:Nat}{v:Value}{n:Nat}{xs:List Value}(own:w.ownsRow B e size v n xs){P:Nat}{o:Obj}(hP:w.heap[P]?=some o)(ho:∀ c,o≠.cells c e (0,0))(j:Nat)(u:Value) :
  (w.setCell ⟨P,j,none⟩ u).ownsRow B e size v n xs:=by
 obtain⟨b,a⟩:=own;refine⟨b,?_⟩;rcases a with a | ⟨g,cap,cur,hv,hb,hh,r⟩
 ·exact aCa a
 ·refine aCb ⟨g,cap,cur,hv,hb,?_,r⟩;rw[aCD _ _ _ _ ?_]
  ·exact hh
  ·intro d;have f:g=P:=d;subst f;rw[hh]at hP;exact ho _ (Option.some.inj hP).symm
section
variable {w:World} {F:Nat} {ns:List Nd} {bs:List Nat}
theorem Fm.uX(h:Fm w F ns bs):F<w.heap.size:=by
 obtain⟨_,_,c,_⟩:=h.c0;exact World.block_lt_of_cell? w ⟨F,0,none⟩ c
theorem Fm.own(h:Fm w F ns bs){v:Value}(hc:w.cell? ⟨F,0,none⟩=some v):(∃ ao cap,v=.slice ao ns.length cap)/\w.ownsRow (F+1) 127 1 v ns.length (bs.map mD):=by
 obtain⟨ao,cap,c,own⟩:=h.c0;rw[c]at hc;cases hc;exact⟨⟨_,_,rfl⟩,own⟩
theorem Fm.lt(h:Fm w F ns bs):∀ b∈bs,b<w.heap.size/\F<b:=by
 intro b c;obtain⟨i,a,rfl⟩:=aCK c;obtain⟨f,e,hF,d⟩:=h.parts i (ns[i]'(by rw[<-h.len];exact a)) (by simp);rw[aB3 a]at e;cases e;exact⟨dC d,hF⟩
theorem Fm.alloc(h:Fm w F ns bs)(o:Obj):Fm (w.alloc o) F ns bs:=by
 obtain⟨d,cap,c,own⟩:=h.c0;refine⟨⟨d,cap,?_,own.alloc o⟩,?_,h.len,h.wf,?_⟩
 ·rw[World.cell?_alloc_past _ _ _ h.uX];exact c
 ·rw[aCS _ _ _ h.uX];exact h.f0
 ·intro i n f;obtain⟨b,e,hF,a⟩:=h.parts i n f;exact⟨b,e,hF,by rw[aCt _ _ _ (dC a)];exact a⟩
theorem Fm.drew(h:Fm w F ns bs):Fm w.drew F ns bs:=⟨h.c0,h.f0,h.len,h.wf,h.parts⟩
theorem Fm.set(h:Fm w F ns bs){P:Nat}(hP:P ∉ bs)(hF:P≠F){o:Obj}(ho:w.heap[P]?=some o)(hne:∀ c,o≠.cells c 127 (0,0))(j:Nat)(v:Value):Fm (w.setCell ⟨P,j,none⟩ v) F ns bs:=by
 obtain⟨a,cap,c,own⟩:=h.c0;refine⟨⟨a,cap,?_,wL own ho hne j v⟩,?_,h.len,h.wf,?_⟩
 ·rw[aB8 _ _ _ _ (λe=>hF (congrArg Addr.block e))];exact c
 ·rw[aCm];exact h.f0
 ·intro i n d;obtain⟨b,e,hF,f⟩:=h.parts i n d;refine⟨b,e,hF,?_⟩;rw[aCD _ _ _ _ ?_]
  ·exact f
  ·intro g;have k:b=P:=g;subst k;exact hP (aCJ e)
theorem Bj{bs:List Nat}{i P:Nat}(h:i<bs.length):(bs++[P]).getD i 0=bs.getD i 0:=by
 simp[List.getD,aCh h]
theorem SV{ns:List Nd}{bs:List Nat}(hw:Wf ns)(hl:bs.length=ns.length){i:Nat}{n:Nd}(hn:ns[i]?=some n)(P:Nat):bR (bs++[P]) i n=bR bs i n:=by
 have e:=(aB9.1 hn).1;obtain⟨a,b⟩:=hw i n hn;have c:lV (bs++[P]) n=lV bs n:=by
  unfold lV;cases hb:bG n.op with
  | true=>rfl
  | false=>rw[Bj (by have:=a hb;omega)]
 have d:lT (bs++[P]) n=lT bs n:=by
  unfold lT;cases hb:bU n.op with
  | false=>rfl
  | true=>rw[Bj (by have:=b hb;omega)]
 unfold bR;rw[c,d]
theorem Fm.push(h:Fm w F ns bs){w':World}(hk:Kp F w w')(hb:Below (F+1) w w'){P:Nat}(GU:F<P)(n:Nd)(h1:bG n.op=false->n.l<ns.length)(h2:bU n.op=true->n.r<ns.length)
  (hP:w.heap[P]?=some (bR bs ns.length n)) (ao:Option Addr) (cap:Nat)
  (own:w'.ownsRow (F+1) 127 1 (.slice ao (ns.length+1) cap) (ns.length+1) (bs.map mD++[mD P])) :
  Fm (w'.setCell ⟨F,0,none⟩ (.slice ao (ns.length+1) cap)) F (ns++[n]) (bs++[P]):=by
 obtain⟨_,_,c,_⟩:=h.c0;have f:=h.wf.snoc n h1 h2;refine⟨⟨ao,cap,?_,?_⟩,?_,by simp[h.len],f,?_⟩
 ·rw[aCd,aCv];exact aCz _ _ _ ((hb.cell (p:=⟨F,0,none⟩) (aCA _)).trans c)
 ·rw[aCd,aCv,aCM];exact ownsRow_setCell_below own (by simp) _
 ·rw[aCm,hb.frozen (p:=⟨F,0,none⟩) (aCA _)];exact h.f0
 ·intro i m a;by_cases d:i<ns.length
  ·rw[aCh d]at a;obtain⟨b,e,hF,g⟩:=h.parts i m a;refine⟨b,by rw[aCh (by rw[h.len];exact d)];exact e,hF,?_⟩;rw[aCD _ _ _ _ (by show b≠F;omega),SV h.wf h.len a];exact hk b _ _ g (by decide) (by omega)
  ·have j:i=ns.length:=by
    have:=(aB9.1 a).1;simp at this;omega
   subst j;simp at a;subst a;refine⟨P,by rw[<-h.len];simp,GU,?_⟩;rw[aCD _ _ _ _ (by show P≠F;omega),show bR (bs++[P]) ns.length n=bR bs ns.length n from ?_]
   ·exact hk P _ _ hP (by decide) (by omega)
   ·have k:lV (bs++[P]) n=lV bs n:=by
     unfold lV;cases hb:bG n.op with
     | true=>rfl
     | false=>rw[Bj (by have:=h1 hb;rw[h.len];omega)]
    have o:lT (bs++[P]) n=lT bs n:=by
     unfold lT;cases hb:bU n.op with
     | false=>rfl
     | true=>rw[Bj (by have:=h2 hb;rw[h.len];omega)]
    unfold bR;rw[k,o]
end
def jk(ps:List (Nat × Nat)):List Value:=ps.flatMap λp=>[.int .i64 p.1,.int .i64 p.2]
theorem aak(ps:List (Nat × Nat))(p:Nat × Nat):jk (ps++[p])=jk ps++[.int .i64 p.1,.int .i64 p.2]:=by simp[jk]
theorem xK(ps:List (Nat × Nat))(i:Nat)(hi:i<ps.length):(jk ps)[i*2]?=some (.int .i64 (dA ps i))/\(jk ps)[i*2+1]?=some (.int .i64 (az ps i)):=by
 induction ps generalizing i with
 | nil=>simp at hi
 | cons p ps ih=>
  cases i with
  | zero=>simp[jk,dA,az]
  | succ i=>
   have:=ih i (by simpa using hi);rw[yM,sK,show jk (p::ps)=[.int .i64 p.1,.int .i64 p.2]++jk ps by simp[jk]];rw[aCi (by simp;omega),aCi (by simp;omega)];simpa [show (i+1)*2 - 2=i*2 by omega,show (i+1)*2+1 - 2=i*2+1 by omega] using this
theorem Qt(ps:List (Nat × Nat))(i:Nat)(hi:i<ps.length)(x S:Nat):((jk ps).set (i*2) (.int .i64 x)).set (i*2+1) (.int .i64 S)=jk (ps.set i (x,S)):=by
 induction ps generalizing i with
 | nil=>simp at hi
 | cons p ps ih=>
  cases i with
  | zero=>simp[jk]
  | succ i=>
   have:=ih i (by simpa using hi);rw[show jk (p::ps)=.int .i64 p.1::.int .i64 p.2::jk ps by simp[jk],show (i+1)*2=i*2+1+1 by omega];simp only[aB6];rw[this];simp[jk]
structure Tb (w:World) (T back:Nat) (ps:List (Nat × Nat)):Prop where
 c0:∃ ao cap,w.cell? ⟨T,0,none⟩=some (.slice ao ps.length cap)/\w.ownsRow (T+1) 232 2 (.slice ao ps.length cap) ps.length (jk ps)
 c1:w.cell? ⟨T,1,none⟩=some (.int .i64 back)
 f0:w.frozen? ⟨T,0,none⟩=false
def oD(w w':World):Prop:=∀ (q:Nat) (c:Array Value) (Ty:TypeId) (z:Nat × Nat),w.heap[q]?=some (.cells c Ty z)->Ty≠232->w'.heap[q]?=some (.cells c Ty z)
theorem oD.refl(w:World):oD w w:=λ_ _ _ _ h _=>h
theorem oD.trans{a b c:World}(h:oD a b)(k:oD b c):oD a c:=λq x T z h1 h2=>k q x T z (h q x T z h1 h2) h2
theorem oD.of_below{w w':World}(h:Below w.heap.size w w'):oD w w':=λq c Ty z h1 _=>by
 rw[h.block q (aCu.1 h1).1];exact h1
theorem oD.drewN{a w:World}(h:oD a w)(n:Nat):oD a (w.drewN n):=h
theorem Tb.lt{w:World}{T back:Nat}{ps:List (Nat × Nat)}(h:Tb w T back ps):T<w.heap.size:=World.block_lt_of_cell? w ⟨T,1,none⟩ h.c1
theorem Tb.row{w:World}{T back:Nat}{ps:List (Nat × Nat)}(h:Tb w T back ps)(hn:0<ps.length):∃ g cap,w.cell? ⟨T,0,none⟩=some (.slice (some ⟨g,0,none⟩) ps.length cap)/\w.ownsRow (T+1) 232 2 (.slice (some ⟨g,0,none⟩) ps.length cap) ps.length (jk ps)/\T<g/\g<w.heap.size/\ps.length<=cap:=by
 obtain⟨a,cap,c,own⟩:=h.c0;rcases own.2 with⟨e,h0⟩ | ⟨g,cap',cur,e,hb,hh,hc,_⟩
 ·omega
 ·cases e;exact⟨g,cap,c,own,by omega,(aCu.1 hh).1,hc⟩
theorem Tb.below{w w':World}{T back:Nat}{ps:List (Nat × Nat)}(h:Tb w T back ps)(hb:Below w.heap.size w w'):Tb w' T back ps:=by
 obtain⟨a,cap,c,own⟩:=h.c0;refine⟨⟨a,cap,?_,?_⟩,?_,?_⟩
 ·rw[hb.cell h.lt];exact c
 ·exact own.kept (row:=none) ⟨hb.os,hb.tape,hb.output,hb.size,λk b _=>hb.block k b⟩ (by cases hv:(Value.slice a ps.length cap).ownBlock <;> simp)
 ·rw[hb.cell h.lt];exact h.c1
 ·rw[hb.frozen h.lt];exact h.f0
theorem oD.set{a w:World}(h:oD a w){P:Nat}(hP:a.heap.size<=P\/∃ c z,a.heap[P]?=some (.cells c 232 z))(j:Nat)(v:Value):oD a (w.setCell ⟨P,j,none⟩ v):=λq c Ty z h1 h2=>by
 have hq:=(aCu.1 h1).1;have:q≠P:=by
  rcases hP with hP | ⟨c',z',hP⟩
  ·omega
  ·intro e;subst e;rw[h1]at hP;simp at hP;exact h2 hP.2.1
 rw[aCD _ _ _ _ this];exact h q c Ty z h1 h2
theorem akD{w:World}{T back i g cap n x S:Nat}{ps:List (Nat × Nat)}(ht:Tb w T back ps)(hi:i<ps.length)(hn:ps.length=n)(hc:w.cell? ⟨T,0,none⟩=some (.slice (some ⟨g,0,none⟩) n cap)) :
  Tb ((w.setCell ⟨g,i*2,none⟩ (.int .i64 x)).setCell ⟨g,i*2+1,none⟩ (.int .i64 S)) T back (ps.set i (x,S))/\oD w ((w.setCell ⟨g,i*2,none⟩ (.int .i64 x)).setCell ⟨g,i*2+1,none⟩ (.int .i64 S))/\Below (T+1) w ((w.setCell ⟨g,i*2,none⟩ (.int .i64 x)).setCell ⟨g,i*2+1,none⟩ (.int .i64 S)):=by
 subst hn;obtain⟨h,b,c,own,d,_,_⟩:=ht.row (by omega);rw[hc]at c;cases c;have l:=(own.stored (i*2) (.int .i64 x)).1;have f:=(l.stored (i*2+1) (.int .i64 S)).1;rw[Qt ps i hi]at f;have ne:∀ j k,(⟨g,j,none⟩:Addr)≠⟨T,k,none⟩:=λj k e=>by have:=congrArg Addr.block e;simp at this;omega
 have a:∃ c z,w.heap[g]?=some (.cells c 232 z):=by
  rcases own.2 with⟨e,_⟩ | ⟨h,b,cur,e,_,hh,_⟩
  ·cases e
  ·cases e;exact⟨_,_,hh⟩
 refine⟨⟨⟨some ⟨g,0,none⟩,cap,?_,?_⟩,?_,?_⟩,?_,?_⟩
 ·rw[aB8 _ _ _ _ (ne _ _),aB8 _ _ _ _ (ne _ _),List.length_set];exact hc
 ·rw[List.length_set];exact f
 ·rw[aB8 _ _ _ _ (ne _ _),aB8 _ _ _ _ (ne _ _)];exact ht.c1
 ·rw[aCm,aCm];exact ht.f0
 ·exact((oD.refl w).set (aCb a) _ _).set (aCb a) _ _
 ·exact((aB4 _ _).setCell (p:=⟨g,i*2,none⟩) d _).setCell (p:=⟨g,i*2+1,none⟩) d _
theorem Tb.drewN{w:World}{T back:Nat}{ps:List (Nat × Nat)}(h:Tb w T back ps)(m:Nat):Tb (w.drewN m) T back ps:=⟨h.c0,h.c1,h.f0⟩
theorem abd(n:Nd)(k N:Nat)(ps:List (Nat × Nat))(i:Nat)(hi:i<ps.length) :
  (ps.take (i+1)++(bK n k N (ps.drop (i+1))).1).set i (dA ps i,uo n k (dA ps i,az ps i) (bK n k N (ps.drop (i+1))).2)=ps.take i++(bK n k N (ps.drop i)).1:=by
 have e:ps.drop i=(dA ps i,az ps i)::ps.drop (i+1):=by
  have a:dA ps i=ps[i].1:=by simp[dA,List.getD,aB3 hi]
  have b:az ps i=ps[i].2:=by simp[az,List.getD,aB3 hi]
  rw[a,b];exact List.drop_eq_getElem_cons hi
 rw[e];simp only[bK];rw[List.take_succ_eq_append_getElem hi,List.append_assoc,List.set_append_right _ _ (by simp;omega)];simp[show min i ps.length=i by omega]
theorem aac(n:Nd)(k N:Nat)(ps:List (Nat × Nat))(i:Nat)(hi:i<ps.length):(bK n k N (ps.drop i)).2=uo n k (dA ps i,az ps i) (bK n k N (ps.drop (i+1))).2:=by
 have e:ps.drop i=(dA ps i,az ps i)::ps.drop (i+1):=by
  have a:dA ps i=ps[i].1:=by simp[dA,List.getD,aB3 hi]
  have b:az ps i=ps[i].2:=by simp[az,List.getD,aB3 hi]
  rw[a,b];exact List.drop_eq_getElem_cons hi
 rw[e];simp[bK]
theorem aj9(n:Nd)(k N:Nat)(ps:List (Nat × Nat))(i:Nat)(hi:i<ps.length):dA (ps.take (i+1)++(bK n k N (ps.drop (i+1))).1) i=dA ps i/\az (ps.take (i+1)++(bK n k N (ps.drop (i+1))).1) i=az ps i:=by
 simp only[dA,az,List.getD];rw[aCh (by simp;omega),List.getElem?_take_of_lt (by omega)];exact⟨rfl,rfl⟩
theorem aj6(n:Nd)(k N:Nat)(ps:List (Nat × Nat))(j:Nat)(hj:j<=ps.length):(ps.take j++(bK n k N (ps.drop j)).1).length=ps.length:=by
 rw[aCd,oV];simp;omega
theorem ajU(n:Nd)(k N:Nat)(ps:List (Nat × Nat))(hk:k<8)(hf:mV ps)(hN:N<256)(j:Nat):(bK n k N (ps.drop j)).2<256:=by
 rw[Jm]
 split
 ·have:mV (ps.drop j):=λi=>by have:=hf (j+i);simpa [dA,az,List.getD,List.getElem?_drop] using this
  exact(qd hk this 0).2
 ·exact hN
theorem Y3(N T back k:Nat)(n:Nd)(ps:List (Nat × Nat))(w:World)(hNe:az ps back=N)(ht:Tb w T back ps)(hf:mV ps)(hb:back<ps.length)(hlen:ps.length<=80)(hk:k<8)(hl:n.l<8)(hr:n.r<8) :
  Calls Tryz.prog 147 #[.pointer (some ⟨T,0,none⟩),ym n,.int .i64 k] w λe w'=>e=.returned (.tuple #[])/\Tb w' T back (bK n k N ps).1/\Below T w w'/\oD w w':=by
 obtain⟨g,cap,c0,own,UE,hg,G⟩:=ht.row (by omega);have c1:=ht.c1;have hT:=ht.lt;have hd:decide ((back:Int)<0)=false:=by simp
 have Jv:decide ((ps.length:Int)<=(back:Int))=false:=by simp;omega
 have z:decide (ps.length<=back)=false:=by simp;omega
 have H:=(own.cellAt (back*2+1) (by omega)).trans (xK ps back hb).2;have I:=(hf back).2;rw[hNe]at H I;clear hNe;unfold ym;go_enter Tryz.func147,Tryz.ntmps147;go_wp2
 go_quiet (fail)
 go_wp2
 go_quiet (fail)
 go_wp2;clear hd Jv z H c0 c1 own
 go_loopw [6,7] (λnx i wr=>∃ j:Nat,j<=ps.length/\i=.int .i64 ((j:Int) - 1)/\nx=.int .i64 ((bK n k N (ps.drop j)).2:Nat)/\Tb wr T back (ps.take j++(bK n k N (ps.drop j)).1)/\Below T w wr/\oD w wr/\wr.heap[w.heap.size]?=some (.cells #[.int .u8 n.op,.int .i64 n.l,.int .i64 n.r] 109)) (λ_ i _=>(intOf i+1).toNat)
 case atStart=>
  refine⟨ps.length,aB2 _,rfl,by simp[bK],?_,?_,?_,?_⟩
  ·rw[List.take_length,List.drop_length];simp only[bK,List.append_nil];exact(ht.below ((aB4 _ _).alloc (aB2 _) _)).drewN _
  ·exact aCl ((aB4 _ _).alloc (by omega) _) _
  ·exact(oD.of_below ((aB4 _ _).alloc (aB2 _) _)).drewN _
  ·exact heap_alloc_new _ _
 case round=>
  obtain⟨j,hj,rfl,rfl,s,J,h,t⟩:=hrel;cases j with
  | zero=>
   go_wp2
   go_end0
   refine⟨rfl,?_,J,h⟩;simpa using s
  | succ i=>
   have b:=aj6 n k N ps (i+1) hj;obtain⟨m,Hy,A,o,atG,a,B⟩:=s.row (by omega);have C:=aj9 n k N ps i (by omega);have y:=xK (ps.take (i+1)++(bK n k N (ps.drop (i+1))).1) i (by omega);rw[C.1,C.2]at y;have K:=(o.cellAt (i*2) (by omega)).trans y.1;have L:=(o.cellAt (i*2+1) (by omega)).trans y.2;have O:=o.frozenAt (i*2);have P:=o.frozenAt (i*2+1);rw[b]at A B;have HA:=hid (abd n k N ps i (by omega));have HH:=hid (aac n k N ps i (by omega));have hM:=ajU n k N ps hk hf I (i+1);have hx:=(hf i).1;have Q:=(hf i).2;have D:=hid s;have R:=hid b;clear C y o s b;generalize (bK n k N (ps.drop (i+1))).2=M at *;obtain⟨b0,b1,b2⟩:wr.cell? ⟨w.heap.size,0,none⟩=some (.int .u8 n.op)/\wr.cell? ⟨w.heap.size,1,none⟩=some (.int .i64 n.l)/\wr.cell? ⟨w.heap.size,2,none⟩=some (.int .i64 n.r):=by
    refine⟨?_,?_,?_⟩ <;> (rw[aCR wr _ _ _ _ _ t];rfl)
   have gD:=dC t;generalize dA ps i=X at *;generalize az ps i=S at *;have E:=λW=>XK n k X S M W hl hr hk hx Q hM;unfold ym at E;have U:(((i+1:Nat):Int) - 1)=(i:Int):=by omega
   simp only[U];clear U;go_wp2_with fail;refine(E _).mono ?_;rintro e w2 ⟨rfl,f⟩;have c:Hid (uP S k (bg n.op X (S.testBit n.l) (S.testBit n.r) (M.testBit k) (M.testBit n.l))=uo n k (X,S) M):=hid rfl;clear E;generalize bg n.op X (S.testBit n.l) (S.testBit n.r) (M.testBit k) (M.testBit n.l)=v at *;have q:=f.size;simp only[aB7]at q;have h0:=(f.cell (p:=⟨wr.heap.size,0,none⟩) (by simp)).trans (aCY wr _ _ 0);have h1:=(f.cell (p:=⟨wr.heap.size,1,none⟩) (by simp)).trans (aCY wr _ _ 1);have q1:=(f.frozen (p:=⟨wr.heap.size,1,none⟩) (by simp)).trans (World.frozen?_alloc_new wr _ _ 1);simp at h0 h1;go_wp2_with fail;refine(JU S k v w2 Q hk).mono ?_;rintro e V ⟨rfl,rfl⟩;have d:Below wr.heap.size wr V:=((aB4 _ _).alloc (aB2 _) _).trans (f.mono (by simp));have d2:=(d.cell (p:=⟨T,0,none⟩) (by show T<wr.heap.size;omega)).trans A;have y3:=(d.cell (p:=⟨m,i*2,none⟩) a).trans K;have y4:=(d.cell (p:=⟨m,i*2+1,none⟩) a).trans L;have z3:=(d.frozen (p:=⟨m,i*2,none⟩) a).trans O;have z4:=(d.frozen (p:=⟨m,i*2+1,none⟩) a).trans P;have yC:=hid d;have Wj:=hid t;clear t d f A K L O P b0 b1 b2 q;generalize uP S k v=S2 at *;go_wp2_with fail
   go_region
   all_goals go_wp2_with fail
   all_goals go_roundw
   case rel=>
    have u:Below wr.heap.size wr (V.setCell ⟨wr.heap.size,1,none⟩ (.int .i64 S2)):=yC.out.setCell (p:=⟨wr.heap.size,1,none⟩) (aB2 _) _;obtain⟨Y,Z,t3⟩:=akD (i:=i) (x:=X) (S:=S2) (D.out.below u) (by rw[R.out];omega) R.out (cap:=Hy) (g:=m) ((aB8 _ _ _ _ (λe=>by have:=congrArg Addr.block e;simp at this;omega)).trans d2);rw[c.out,HA.out,<-c.out]at Y;have F:=h.trans ((oD.of_below u).trans Z);refine⟨i,by omega,rfl,by rw[HH.out,<-c.out],Y.drewN _,?_,F,?_⟩
    ·exact aCl ((J.trans (u.mono (by omega))).trans (t3.mono (Nat.le_succ _))) _
    ·exact(oD.of_below u |>.trans Z) _ _ _ _ Wj.out (by decide)
   case measure=>simp[intOf]
theorem aal(ps:List (Nat × Nat))(i:Nat)(hi:i<ps.length)(S:Nat):(jk ps).set (i*2+1) (.int .i64 S)=jk (ps.set i (dA ps i,S)):=by
 have h:=Qt ps i hi (dA ps i) S;rw[<-h];have e:=(xK ps i hi).1;obtain⟨a,b⟩:=aB9.1 e;rw[show (jk ps).set (i*2) (.int .i64 (dA ps i))=jk ps from by rw[<-b];exact List.set_getElem_self a]
theorem Ph(T back k:Nat)(n:Nd)(ps:List (Nat × Nat))(w:World)(ht:Tb w T back ps)(hf:mV ps)(hb:back<ps.length)(hlen:ps.length<=80)(hk:k<8)(hl:n.l<8)(hr:n.r<8) :
  Calls Tryz.prog 147 #[.pointer (some ⟨T,0,none⟩),.agg #[.int .u8 n.op,.int .i64 n.l,.int .i64 n.r],.int .i64 k] w λe w'=>e=.returned (.tuple #[])/\Tb w' T back (bK n k (az ps back) ps).1/\Below T w w'/\oD w w':=
 Y3 _ T back k n ps w rfl ht hf hb hlen hk hl hr
theorem aiP{w:World}{T back i g cap n S:Nat}{ps:List (Nat × Nat)}(ht:Tb w T back ps)(hi:i<ps.length)(hn:ps.length=n)(hc:w.cell? ⟨T,0,none⟩=some (.slice (some ⟨g,0,none⟩) n cap)) :
  Tb (w.setCell ⟨g,i*2+1,none⟩ (.int .i64 S)) T back (ps.set i (dA ps i,S))/\oD w (w.setCell ⟨g,i*2+1,none⟩ (.int .i64 S))/\Below (T+1) w (w.setCell ⟨g,i*2+1,none⟩ (.int .i64 S)):=by
 subst hn;obtain⟨f,a,c,own,h,_,_⟩:=ht.row (by omega);rw[hc]at c;cases c;have d:=(own.stored (i*2+1) (.int .i64 S)).1;rw[aal ps i hi]at d;have ne:∀ j k,(⟨g,j,none⟩:Addr)≠⟨T,k,none⟩:=λj k e=>by have:=congrArg Addr.block e;simp at this;omega
 have b:∃ c z,w.heap[g]?=some (.cells c 232 z):=by
  rcases own.2 with⟨e,_⟩ | ⟨f,a,cur,e,_,hh,_⟩
  ·cases e
  ·cases e;exact⟨_,_,hh⟩
 refine⟨⟨⟨some ⟨g,0,none⟩,cap,?_,?_⟩,?_,?_⟩,?_,?_⟩
 ·rw[aB8 _ _ _ _ (ne _ _),List.length_set];exact hc
 ·rw[List.length_set];exact d
 ·rw[aB8 _ _ _ _ (ne _ _)];exact ht.c1
 ·rw[aCm];exact ht.f0
 ·exact(oD.refl w).set (aCb b) _ _
 ·exact(aB4 _ _).setCell (p:=⟨g,i*2+1,none⟩) h _
theorem Y5(n:Nd)(k:Nat)(ps:List (Nat × Nat))(j:Nat)(hj:j<ps.length) :
  ((df n k ps).take j++ps.drop j).set j (dA ps j,uP (az ps j) k (lK n.op))=(df n k ps).take (j+1)++ps.drop (j+1):=by
 have a:dA ps j=ps[j].1:=by simp[dA,List.getD,aB3 hj]
 have b:az ps j=ps[j].2:=by simp[az,List.getD,aB3 hj]
 have c:=kL n k ps;rw[a,b,List.drop_eq_getElem_cons hj,List.take_succ_eq_append_getElem (by omega),List.append_assoc,List.set_append_right _ _ (by simp;omega)];simp[df,show min j ps.length=j by omega];rw[List.drop_eq_getElem_cons hj];rfl
theorem aa1(n:Nd)(k:Nat)(ps:List (Nat × Nat))(j:Nat)(hj:j<ps.length):dA ((df n k ps).take j++ps.drop j) j=dA ps j/\az ((df n k ps).take j++ps.drop j) j=az ps j:=by
 have a:=kL n k ps;simp only[dA,az,List.getD];rw[aCi (by simp;omega)];simp[show min j ps.length=j by omega,a]
theorem Sc(n:Nd)(k:Nat)(ps:List (Nat × Nat))(j:Nat)(hj:j<=ps.length):((df n k ps).take j++ps.drop j).length=ps.length:=by
 have a:=kL n k ps;simp;omega
theorem agv(T back k:Nat)(n:Nd)(ps:List (Nat × Nat))(w:World)(ht:Tb w T back ps)(hf:mV ps)(hb:back<ps.length)(hlen:ps.length<=80)(hk:k<8)(hl:n.l<8)(hr:n.r<8) :
  Calls Tryz.prog 138 #[.pointer (some ⟨T,0,none⟩),.agg #[.int .u8 n.op,.int .i64 n.l,.int .i64 n.r],.int .i64 k] w λe w'=>e=.returned (.tuple #[])/\Tb w' T back (tF n k back ps)/\Below T w w'/\oD w w':=by
 have hT:=ht.lt;have t:=λW=>PW n W;unfold ym at t;go_enter Tryz.func138,Tryz.ntmps138;go_wp2_with fail;refine(t _).mono ?_;rintro e J ⟨rfl,u⟩;clear t;have a:Below w.heap.size w J:=((aB4 _ _).alloc (aB2 _) _).trans (u.mono (by simp));have U:J.heap[w.heap.size]?=some (.cells #[.int .u8 n.op,.int .i64 n.l,.int .i64 n.r] 109):=by
  rw[u.block _ (by simp)];exact heap_alloc_new _ _
 have c:=ht.below a;have f:=oD.of_below a;obtain⟨g,cap,V,own,UE,hg,K⟩:=c.row (by omega);have X:=hid c;have Y:=hid f;have Z:=hid a;clear u own c f a;go_wp2_with fail;clear V
 go_loopw [15] (λi wr=>∃ j:Nat,j<=ps.length/\i=.int .i64 j/\Tb wr T back ((df n k ps).take j++ps.drop j)/\Below T w wr/\oD w wr/\wr.heap[w.heap.size]?=some (.cells #[.int .u8 n.op,.int .i64 n.l,.int .i64 n.r] 109)) (λi _=>ps.length - (intOf i).toNat)
 case atStart=>
  exact⟨0,aCg _,rfl,by simpa using X.out,Z.out.mono (by omega),Y.out,U⟩
 case round=>
  obtain⟨j,hj,rfl,d,L,m,x⟩:=hrel;have b:=Sc n k ps j hj;by_cases o:j<ps.length
  ·obtain⟨g1,Hy,M,z,atG,hg1,A⟩:=d.row (by omega);have q:=aa1 n k ps j o;have y:=xK _ j (show j<((df n k ps).take j++ps.drop j).length by omega);rw[q.1,q.2]at y;have y2:=(z.cellAt (j*2+1) (by omega)).trans y.2;have z2:=z.frozenAt (j*2+1);rw[b]at M A;have HA:=hid (Y5 n k ps j o);have uO:=hid q.1;have hS:=(hf j).2;have B:=hid d;have N:=hid b;have hTw:=d.lt;clear q y z d b;generalize az ps j=S at *;generalize lK n.op=v at *;go_wp2_with fail
   go_region_with (go_at_call 115;refine(JU S k v _ hS hk).mono ?_;rintro e w' ⟨rfl,rfl⟩)
   all_goals
    go_wp2_with fail;go_roundw
    case rel=>
     obtain⟨O,P,t3⟩:=aiP (i:=j) (S:=uP S k v) B.out (by rw[N.out];omega) N.out (cap:=Hy) (g:=g1) M;rw[uO.out,HA.out]at O;refine⟨j+1,by omega,by go_num,O.drewN _,?_,m.trans P,P _ _ _ _ x (by decide)⟩;exact aCl (L.trans (t3.mono (Nat.le_succ _))) _
    case measure=>simp[intOf];omega
  ·have iw:j=ps.length:=by omega
   subst iw;have Q:(df n k ps).take ps.length++ps.drop ps.length=df n k ps:=by
    rw[List.drop_length,List.append_nil,List.take_of_length_le (by rw[kL];exact aB2 _)]
   rw[Q]at d;obtain⟨C,D,E⟩:wr.cell? ⟨w.heap.size,0,none⟩=some (.int .u8 n.op)/\wr.cell? ⟨w.heap.size,1,none⟩=some (.int .i64 n.l)/\wr.cell? ⟨w.heap.size,2,none⟩=some (.int .i64 n.r):=by
    refine⟨?_,?_,?_⟩ <;> (rw[aCR wr _ _ _ _ _ x];rfl)
   have sl:=kL n k ps;have S1:=λW h=>Ph T back k n (df n k ps) W h (rF hk hf) (by omega) (by omega) hk hl hr;have F:=oV n k (az (df n k ps) back) (df n k ps);have S2:=λW h=>Ph T back k n (bK n k (az (df n k ps) back) (df n k ps)).1 W h (qd hk (rF hk hf)) (by omega) (by omega) hk hl hr;clear Q sl F b;have De:=hid d;clear d;go_wp2_with fail;refine(S1 _ De.out).mono ?_;rintro e s ⟨rfl,p,ae,R⟩;have G:=R _ _ _ _ x (by decide);have uM:=hid p;clear C D E p;obtain⟨C,D,E⟩:s.cell? ⟨w.heap.size,0,none⟩=some (.int .u8 n.op)/\s.cell? ⟨w.heap.size,1,none⟩=some (.int .i64 n.l)/\s.cell? ⟨w.heap.size,2,none⟩=some (.int .i64 n.r):=by
    refine⟨?_,?_,?_⟩ <;> (rw[aCR s _ _ _ _ _ G];rfl)
   go_wp2_with fail;refine(S2 _ uM.out).mono ?_;rintro e w4 ⟨rfl,H,dB,I⟩;clear C D E;go_wp2_with fail
   go_end0
   exact⟨rfl,H,(L.trans ae).trans dB,(m.trans R).trans I⟩
def iH(ns:List Nd):Prop:=∀ (i:Nat) (n:Nd),ns[i]?=some n->(bG n.op=true/\n.l=0/\n.r=0)\/(eF n.op=true/\n.l<i/\n.r=0)\/(bU n.op=true/\n.l<i/\n.r<i)
theorem iH.snoc{ns:List Nd}(h:iH ns)(n:Nd)(hn:(bG n.op=true/\n.l=0/\n.r=0)\/(eF n.op=true/\n.l<ns.length/\n.r=0)\/(bU n.op=true/\n.l<ns.length/\n.r<ns.length)):iH (ns++[n]):=by
 intro i m a;by_cases b:i<ns.length
 ·rw[aCh b]at a;exact h i m a
 ·rw[aCi (by omega)]at a;have:i=ns.length:=by
   have:=(aB9.1 a).1;simp at this;omega
  subst this;simp at a;subst a;exact hn
theorem Lp:∀ (k:Nat) (s:ByteArray) (a:Nat) (ns:List Nd) (a':Nat) (eQ:List Nd),ps k s a ns=some (a',eQ)->iH ns->iH eQ/\∃ ms,eQ=ns++ms
 | 0,_,_,_,_,_,h,_=>by simp[ps]at h
 | k+1,s,a,ns,a',eQ,h,hw=>by
  by_cases b1:bG (bt s a)=true
  ·rw[qg b1]at h;simp only[aCC,aCP]at h;obtain⟨rfl,rfl⟩:=h;exact⟨hw.snoc _ (aCa ⟨b1,rfl,rfl⟩),_,rfl⟩
  ·rw[Bool.not_eq_true]at b1;by_cases b2:eF (bt s a)=true
   ·rw[uU b2]at h;unfold xy at h;cases e:ps k s (a+1) ns with
    | none=>rw[e]at h;simp at h
    | some x=>
     obtain⟨a1,n1⟩:=x;rw[e]at h;simp only[aCC,aCP]at h;obtain⟨rfl,rfl⟩:=h;have g:=eY k s _ _ _ _ e;obtain⟨h1,ms,h2⟩:=Lp k s _ _ _ _ e hw;exact⟨h1.snoc _ (aCb (aCa ⟨b2,by simp only;omega,rfl⟩)),_,by rw[h2,List.append_assoc]⟩
   ·rw[Bool.not_eq_true]at b2;by_cases b3:bt s a=40
    ·rw[qJ b3]at h;unfold ps2 at h;cases e:ps k s (a+1) ns with
     | none=>rw[e]at h;simp at h
     | some x=>
      obtain⟨a1,n1⟩:=x;rw[e]at h;simp only at h;by_cases b4:bU (bt s a1)=true
      ·rw[aC2 b4]at h;cases e2:ps k s (a1+1) n1 with
       | none=>rw[e2]at h;simp at h
       | some x=>
        obtain⟨a2,n2⟩:=x;rw[e2]at h;simp only at h;by_cases b5:bt s a2=41
        ·rw[aC2 b5]at h;simp only[aCC,aCP]at h;obtain⟨rfl,rfl⟩:=h;have g1:=eY k s _ _ _ _ e;have g2:=eY k s _ _ _ _ e2;obtain⟨h1,ms1,q1⟩:=Lp k s _ _ _ _ e hw;obtain⟨h2,ms2,q2⟩:=Lp k s _ _ _ _ e2 h1;exact⟨h2.snoc _ (aCb (aCb ⟨b4,by simp only;omega,by simp only;omega⟩)),_,by rw[q2,q1,List.append_assoc,List.append_assoc]⟩
        ·rw[aC1 b5]at h;simp at h
      ·rw[aC1 b4]at h;simp at h
    ·rw[IU b1 b2 b3]at h;simp at h
structure Good (ns:List Nd):Prop where
 pos:0<ns.length
 le:ns.length<=8
 wf:iH ns
theorem iM{s:ByteArray}(h:(af s).1=0):Good (af s).2:=by
 unfold af at h ⊢
 split at h
 ·simp at h
 ·rename_i h1;rw[aC1 h1];cases e:ps 25 s 0 [] with
  | none=>rw[e]at h;simp at h
  | some x=>
   obtain⟨a,ns⟩:=x;rw[e]at h;simp only at h ⊢
   split at h
   ·rename_i h2;rw[aC2 h2]
    split at h
    ·simp at h
    ·rename_i h3;rw[aC1 h3];have g:=eY _ _ _ _ _ _ e;have w:=(Lp _ _ _ _ _ _ e (by intro i n h;simp at h)).1;have b:=g.2.2.2;simp at b;exact⟨b,Nat.not_lt.1 h3,w⟩
   ·simp at h
theorem iH.small{ns:List Nd}(h:iH ns)(hl:ns.length<=8){i:Nat}{n:Nd}(hn:ns[i]?=some n):n.l<8/\n.r<8:=by
 have a:=(aB9.1 hn).1;rcases h i n hn with⟨_,h1,h2⟩ | ⟨_,h1,h2⟩ | ⟨_,h1,h2⟩ <;> omega
def au(ns:List Nd)(k:Nat):Nd:=ns.getD k ⟨0,0,0⟩
def qm(back:Nat)(ns:List Nd)(ps:List (Nat × Nat)):Nat->List (Nat × Nat)
 | 0=>ps
 | k+1=>tF (au ns k) k back (qm back ns ps k)
theorem Pg(back:Nat)(ns:List Nd)(ps:List (Nat × Nat))(k:Nat):(qm back ns ps k).length=ps.length:=by
 induction k with
 | zero=>rfl
 | succ k ih=>simp only[qm];rw[Qv,ih]
theorem KV{back:Nat}{ns:List Nd}{ps:List (Nat × Nat)}(hf:mV ps)(k:Nat)(hk:k<=8):mV (qm back ns ps k):=by
 induction k with
 | zero=>exact hf
 | succ k ih=>exact Qu (by omega) (ih (by omega))
theorem WB{back:Nat}{ns:List Nd}{ps:List (Nat × Nat)}{lt:Nat->Nat}(hb:back<ps.length)(hf:mV ps)(hl:∀ i,i<ps.length->dA ps i=lt i)(hg:iH ns)(h8:ns.length<=8)(k:Nat)(hk:k<=ns.length) :
  aax ps.length back lt (ns.take k) (qm back ns ps k):=by
 induction k with
 | zero=>exact⟨rfl,hf,hl,λi h j f=>by simp at f⟩
 | succ k ih=>
  have g:=ih (by omega);have e:ns.take (k+1)=ns.take k++[au ns k]:=by
   rw[List.take_succ_eq_append_getElem (by omega)];simp[au,List.getD,aB3 (show k<ns.length by omega)]
  have d:ns[k]?=some (au ns k):=by simp[au,List.getD,aB3 (show k<ns.length by omega)]
  have b:(ns.take k).length=k:=by simp;omega
  rw[e];have c:=Y2 hb g (au ns k) (by omega);rw[b]at c;refine c ?_ ?_ ?_
  ·intro a;rcases hg k _ d with⟨h3,_⟩ | ⟨_,h3,_⟩ | ⟨_,h3,_⟩
   ·rw[a]at h3;simp at h3
   ·exact h3
   ·exact h3
  ·intro a;rcases hg k _ d with⟨h3,_⟩ | ⟨h3,_⟩ | ⟨_,_,h3⟩
   ·rw[uZ h3]at a;simp at a
   ·rw[l8 h3]at a;simp at a
   ·exact h3
  ·rcases hg k _ d with⟨h3,_⟩ | ⟨h3,_⟩ | ⟨h3,_⟩
   ·exact aCa h3
   ·exact aCb (aCa h3)
   ·exact aCb (aCb h3)
def pW(back:Nat)(ns:List Nd)(xs:List Nat):Bool:=(az (qm back ns (xs.map λx=>(x,0)) ns.length) 0).testBit (ns.length - 1)
def ltOf(xs:List Nat)(i:Nat):Nat:=xs.getD i 0
theorem Ee{back:Nat}{ns:List Nd}{xs:List Nat}(hg:Good ns)(hb:back<xs.length)(hx:∀ x∈xs,x<8):pW back ns xs=true↔d9 (aU xs.length back) (ltOf xs) ns (ns.length - 1) 0:=by
 have d:mV (xs.map λx=>(x,0)):=Yj (by intro p a;simp at a;obtain⟨x,e,rfl⟩:=a;exact⟨hx x e,by show 0<256;decide⟩);have b:=WB (back:=back) (ns:=ns) (ps:=xs.map λx=>(x,0)) (lt:=ltOf xs) (by simpa using hb) d (by
  intro i c;simp at c;simp[dA,ltOf,List.getD,aB3 c]) hg.wf hg.le ns.length (aB2 _)
 rw[List.take_length,aCO]at b;have:=b.2.2.2 0 (by omega) (ns.length - 1) (by have:=hg.pos;omega);exact this
theorem Tryz.acl:(Tryz.prog.info? 232).map (λi=>(i.zero,i.size,i.bytes))=some (some (.agg #[.int .i64 0,.int .i64 0]),2,16):=by kernel_rfl
def cZ(xs:List Nat):List Value:=xs.map λx=>Value.int .i64 (x:Nat)
theorem flat_get(ns:List Nd)(i:Nat)(hi:i<ns.length):(flat ns)[i*3]?=some (.int .u8 (au ns i).op)/\(flat ns)[i*3+1]?=some (.int .i64 (au ns i).l)/\(flat ns)[i*3+2]?=some (.int .i64 (au ns i).r):=by
 induction ns generalizing i with
 | nil=>simp at hi
 | cons p ps ih=>
  cases i with
  | zero=>simp[flat,au]
  | succ i=>
   have:=ih i (by simpa using hi);rw[show au (p::ps) (i+1)=au ps i by simp[au],show flat (p::ps)=[.int .u8 p.op,.int .i64 p.l,.int .i64 p.r]++flat ps by simp[flat]];rw[aCi (by simp;omega),aCi (by simp;omega),aCi (by simp;omega)];simpa [show (i+1)*3 - 3=i*3 by omega,show (i+1)*3+1 - 3=i*3+1 by omega,show (i+1)*3+2 - 3=i*3+2 by omega] using this
def ni(xs:List Nat)(j:Nat):List (Nat × Nat):=(xs.take j).map λx=>(x,0)
theorem Zz{xs:List Nat}{j:Nat}(h:j<=xs.length):(ni xs j).length=j:=by simp[ni];omega
theorem WP{xs:List Nat}{j:Nat}(h:j<xs.length):ni xs (j+1)=ni xs j++[(ltOf xs j,0)]:=by
 unfold ni;rw[List.take_succ_eq_append_getElem h,aCM];simp[ltOf,List.getD,aB3 h]
theorem ZA(xs:List Nat):ni xs xs.length=xs.map λx=>(x,0):=by unfold ni;rw[List.take_length]
theorem sG{w:World}{B e size n cap:Nat}{ao:Option Addr}{xs:List Value}(h:w.ownsRow B e size (.slice ao n cap) n xs)(hn:0<n):∃ g,ao=some ⟨g,0,none⟩/\B<=g/\g<w.heap.size/\n<=cap:=by
 rcases h.2 with⟨e,h0⟩ | ⟨g,cap',cur,e,hb,hh,hc,_⟩
 ·omega
 ·cases e;exact⟨g,rfl,hb,dC hh,hc⟩
theorem akE(w:World)(back:Nat):Tb (w.alloc (.cells #[.slice none 0 0,.int .i64 back] 230)) w.heap.size back []:=
 ⟨⟨none,0,by simp,aCp _ _ _ _⟩,by simp,by simp⟩
theorem aiQ{w w':World}{T back:Nat}{ps:List (Nat × Nat)}(h:Tb w T back ps)(hb:Below (T+1) w w')(p:Nat × Nat)(ao:Option Addr)(cap:Nat)(n:Nat)(hn:n=ps.length+1)
  (ho:w'.ownsRow (T+1) 232 2 (.slice ao n cap) n (jk (ps++[p]))):Tb (w'.setCell ⟨T,0,none⟩ (.slice ao n cap)) T back (ps++[p]):=by
 subst hn;have a:T<T+1:=aCA _;obtain⟨_,_,b,_⟩:=h.c0;refine⟨⟨ao,cap,?_,?_⟩,?_,?_⟩
 ·rw[aCd,aCv];exact aCz _ _ _ ((hb.cell (p:=⟨T,0,none⟩) a).trans b)
 ·rw[aCd,aCv];exact ownsRow_setCell_below ho (by simp) _
 ·rw[aB8 _ _ _ _ (by simp),hb.cell a];exact h.c1
 ·rw[aCm,hb.frozen a];exact h.f0
theorem aao(B1 B2 g n cap back m DW:Nat)(ao:Option Addr)(xs:List Nat)(ns:List Nd)(w:World)
  (hx:w.ownsRow B1 3 1 (.slice (some ⟨g,0,none⟩) n cap) n (cZ xs)) (yt:w.ownsRow B2 109 3 (.slice ao m DW) m (flat ns))
  (hg:Good ns) (LZ:ns.length=m) (gD:xs.length=n) (hb:back<n) (hn:n<=80) (h8:∀ x∈xs,x<8) :
  Calls Tryz.prog 101 #[.agg #[.slice (some ⟨g,0,none⟩) n cap,.int .i64 back],.slice ao m DW] w λe w'=>e=.returned (.bool (pW back ns xs))/\Below w.heap.size w w':=by
 have R:=hg.pos;have T:=hg.le;obtain⟨s,rfl,azr,E,ayY⟩:=sG yt (by omega);obtain⟨g',e,hg0,Mc,U⟩:=sG hx (by omega);cases e;have X:∀ i,i<n->w.cell? ⟨g,i,none⟩=some (.int .i64 (ltOf xs i:Nat)):=λi t=>by
  rw[hx.cellAt i (by omega)];simp[cZ,ltOf,List.getD,aB3 (show i<xs.length by omega)]
 have V:∀ i,i<m->w.cell? ⟨s,i*3,none⟩=some (.int .u8 (au ns i).op):=λi t=>(yt.cellAt (i*3) (by omega)).trans (flat_get ns i (by omega)).1;have Y:∀ i,i<m->w.cell? ⟨s,i*3+1,none⟩=some (.int .i64 (au ns i).l):=λi t=>(yt.cellAt (i*3+1) (by omega)).trans (flat_get ns i (by omega)).2.1;have Z:∀ i,i<m->w.cell? ⟨s,i*3+2,none⟩=some (.int .i64 (au ns i).r):=λi t=>(yt.cellAt (i*3+2) (by omega)).trans (flat_get ns i (by omega)).2.2;obtain⟨i0,t,aT,aP,aO⟩:=info_parts Tryz.acl;have HX:=hid X;have G:=hid V;have H:=hid Y;have yA:=hid Z;clear X V Y Z hx yt;go_enter Tryz.func101,Tryz.ntmps101;go_wp2_with fail
 go_loopw [16] (λi wr=>∃ j:Nat,j<=n/\i=.int .i64 j/\Tb wr (w.heap.size+1) back (ni xs j)/\Below w.heap.size w wr) (λi _=>n - (intOf i).toNat)
 case atStart=>
  refine⟨0,aCg _,rfl,?_,((aB4 _ _).alloc (aB2 _) _).alloc (by simp) _⟩;have:=akE (w.alloc (.cells #[.slice (some ⟨g,0,none⟩) n cap,.int .i64 back] 180)) back;simpa [ni] using this
 case round=>
  obtain⟨j,hj,rfl,o,I⟩:=hrel;by_cases J:j<n
  ·have c:=(I.cell (p:=⟨g,j,none⟩) Mc).trans (HX.out j J);obtain⟨ao,bJ,v,own⟩:=o.c0;have q0:=o.f0;have K:(ni xs j).length=j:=Zz (by omega);rw[K]at v own;have L:=o.lt;have M:=hid o;have N:=hid (WP (xs:=xs) (j:=j) (by omega));have HL:=hid K;clear o K;generalize ltOf xs j=x at *;go_wp2_with (at_builtin;go_must (refine wpList_append_own _ rfl (.tmp 21) (.tmp 24) 228 rfl (w.heap.size+1+1) 232 i0 (.agg #[.int .i64 0,.int .i64 0]) 2 16 Tryz.underlying228 t aT aP aO rfl (by decide) _ _ _ rfl (own.alloc _) ⟨wr.heap.size,0,none⟩ 1 1 [.int .i64 x,.int .i64 0] rfl rfl ?c1 ?c2 ?c3 ?c4 ?c5 ?_))
   case c1=>exact cell_two_new _ _ _ _
   case c2=>intro u hu;simp at hu;rcases hu with rfl | rfl <;> rfl
   case c3=>unfold maxLen;omega
   case c4=>omega
   case c5=>simp;omega
   intro v' w1 b d _;have z:Below (w.heap.size+1+1) wr w1:=((aB4 _ _).alloc (by omega) _).grown d (by simp;omega) (λk h=>(own.lt k h).1);have e2:jk (ni xs j)++[.int .i64 (x:Nat),.int .i64 0]=jk (ni xs j++[(x,0)]):=(aak (ni xs j) (x,0)).symm;rw[e2]at b;clear e2;obtain⟨D,a,hv⟩:∃ D a,v'=.slice D (j+1) a:=by
    rcases b.2 with⟨h,h0⟩ | ⟨g,a,_,h,_⟩
    ·omega
    ·exact⟨_,a,h⟩
   subst hv;have P1:=hid (aiQ M.out z (x,0) D a (j+1) (by rw[HL.out]) b);have k2:=(z.cell (p:=⟨w.heap.size+1,0,none⟩) (aCA _)).trans v;have g2:=(z.frozen (p:=⟨w.heap.size+1,0,none⟩) (aCA _)).trans q0;have B1:=hid ((I.trans (z.mono (by omega))).setCell (p:=⟨w.heap.size+1,0,none⟩) (by show w.heap.size<=w.heap.size+1;omega) (.slice D (j+1) a));clear b d z own v q0 c;go_wp2_with fail;go_roundw
   case rel=>exact⟨j+1,by omega,by go_num,by rw[N.out];exact P1.out,B1.out⟩
   case measure=>simp[intOf];omega
  ·have iw:j=n:=by omega
   have A:ni xs j=xs.map λx=>(x,0):=by rw[iw,<-gD];exact ZA xs
   rw[A]at o;have hf:mV (xs.map λx=>(x,0)):=Yj (by intro p hp;simp at hp;obtain⟨x,hm,rfl⟩:=hp;exact⟨h8 x hm,by show 0<256;decide⟩);have LU:(xs.map λx=>(x,0)).length=n:=by rw[aCO];exact gD
   have HB:Hid (pW back ns xs=(az (qm back ns (xs.map λx=>(x,0)) ns.length) 0).testBit (ns.length - 1)):=hid rfl;have HW:=hid hg.wf;generalize (xs.map λx=>(x,0))=ps at *;clear A HX h8 iw hj;have De:=hid o;clear o;go_wp2_with fail
   go_loopw [30] (λi wr=>∃ k:Nat,k<=m/\i=.int .i64 k/\Tb wr (w.heap.size+1) back (qm back ns ps k)/\Below w.heap.size w wr) (λi _=>m - (intOf i).toNat)
   case atStart=>exact⟨0,aCg _,rfl,De.out,I⟩
   case round=>
    obtain⟨k,hk,rfl,B,f⟩:=hrel;have tl:=Pg back ns ps k;by_cases q:k<m
    ·have c0:=(f.cell (p:=⟨s,k*3,none⟩) E).trans (G.out k q);have c1:=(f.cell (p:=⟨s,k*3+1,none⟩) E).trans (H.out k q);have c2:=(f.cell (p:=⟨s,k*3+2,none⟩) E).trans (yA.out k q);have O:=HW.out.small T (i:=k) (n:=au ns k) (by simp[au,List.getD,aB3 (show k<ns.length by omega)]);have F:=λW h=>agv (w.heap.size+1) back k (au ns k) (qm back ns ps k) W h (KV hf k (by omega)) (by omega) (by omega) (by omega) O.1 O.2;have N:Hid (qm back ns ps (k+1)=tF (au ns k) k back (qm back ns ps k)):=hid rfl;have M:=hid B;have L:=B.lt;clear B O;generalize qm back ns ps k=pk at *;generalize au ns k=nd at *;go_wp2_with fail;refine(F _ (M.out.below ((aB4 _ _).alloc (aB2 _) _))).mono ?_;rintro e w2 ⟨rfl,C,ae,wy⟩;clear F c0 c1 c2;have B2:=hid ((f.trans ((aB4 _ _).alloc (by omega) _)).trans (ae.mono (by omega)));have T2:=hid C;clear ae C wy;go_wp2_with fail;go_roundw
     case rel=>exact⟨k+1,by omega,by go_num,by rw[N.out];exact T2.out,B2.out⟩
     case measure=>simp[intOf];omega
    ·have P6:k=m:=by omega
     rw[P6,<-LZ]at B;have P:(qm back ns ps ns.length).length=n:=by rw[Pg];exact LU
     obtain⟨gp,afk,v,own,_,hgp,Q⟩:=B.row (by omega);have y:=(own.cellAt 1 (by omega)).trans (xK _ 0 (by omega)).2;have hS:=(KV (back:=back) (ns:=ns) hf ns.length T 0).2;rw[P]at v Q;generalize az (qm back ns ps ns.length) 0=S at *;have kz:((n:Int)==0)=false:=aCe.2 (by omega);clear own tl;go_wp2_with fail;rw[show ((m:Int) - 1)=((m - 1:Nat):Int) from by omega];refine(bN S (m - 1) _ hS (by omega)).mono ?_;rintro e w2 ⟨rfl,rfl⟩;go_wp2_with fail;go_ret;refine⟨?_,f⟩;rw[HB.out,LZ];rfl
