import Derived.Test.YtjagijohfkffiabGreatFREM20
set_option maxHeartbeats 16000000
set_option maxRecDepth 100000
set_option linter.unusedSimpArgs false
namespace Go.Proofs.YtjagijohfkffiabGreat
set_option linter.unusedVariables false
theorem IU:∀ (ms:List Nd) (i:Nat),(iY i ms).length=ms.countP λnd=>wU nd.op
 | [],_=>rfl
 | nd::ms,i=>by
  rw[iY,aA5,IU ms (i+1),List.countP_cons];cases wU nd.op <;> simp <;> omega
def J9(nd:Nd):Bool:=dY nd.op
def yc(nd:Nd):Bool:=bQ nd.op
def EC(nd:Nd):Bool:=wU nd.op
def Bc(nd:Nd):Bool:=nd.op==33
def mW(p:Nd->Bool)(ms:List Nd):Nat:=ms.countP p
theorem kR(p:Nd->Bool)(ms:List Nd)(nd:Nd):mW p (ms++[nd])=mW p ms+(if p nd=true then 1 else 0):=by unfold mW;rw[List.countP_append,List.countP_singleton]
theorem De(p:Nd->Bool)(ms ls:List Nd):mW p (ms++ls)=mW p ms+mW p ls:=by unfold mW;rw[List.countP_append]
theorem Ie{α:Type}(p:α->Bool):∀ l:List α,(l.filter p).length+(l.filter λx=>!p x).length=l.length
 | []=>rfl
 | x::l=>by
  have:=Ie p l;cases h:p x <;> simp[h] <;> omega
theorem JK{b:Nat}{ms:List Nd}(h:Seg b ms):ms.length=2*mW yc ms+1+mW J9 ms/\mW EC ms+mW Bc ms<=mW J9 ms+mW yc ms:=by
 induction h using AR with
 | leaf b op ho=>
  simp only[bF,aBF,beq_iff_eq]at ho;rcases ho with(((h | h) | h) | h) | h <;> subst h <;> decide
 | one b op ms ho hs ih=>
  obtain⟨h1,h2⟩:=ih;rw[kR,kR,kR,kR,aA5,aBn];simp only[dY,aBF,beq_iff_eq]at ho;rcases ho with((h | h) | h) | h <;> subst h <;> simp[J9,yc,EC,Bc,dY,bQ,wU] <;> omega
 | two b op ms ls ho h1 h2 ih1 VX=>
  obtain⟨a1,a2⟩:=ih1;obtain⟨b1,b2⟩:=VX;rw[kR,kR,kR,kR,De,De,De,De,aA5,aA5,aBn];simp only[bQ,aBF,beq_iff_eq]at ho;rcases ho with((h | h) | h) | h <;> subst h <;> simp[J9,yc,EC,Bc,dY,bQ,wU] <;> omega
theorem ZC{b:Nat}{ms:List Nd}(h:Seg b ms):mW yc ms=0->mW Bc ms=0->∀ i nd,ms[i]?=some nd->(i=0/\bF nd.op=true)\/(0<i/\dY nd.op=true/\nd.op≠33/\nd.l=b+i - 1/\nd.r=0):=by
 induction h using AR with
 | leaf b op ho=>
  intro _ _ i nd hi;cases i with
  | zero=>simp at hi;subst hi;exact aA2 ⟨rfl,ho⟩
  | succ i=>simp at hi
 | one b op ms ho hs ih=>
  intro h0 h1 i nd hi;have hp:=uu hs;rw[kR]at h0 h1;by_cases e:i<ms.length
  ·rw[aA9 e]at hi;exact ih (by omega) (by omega) i nd hi
  ·rw[aBa (by omega)]at hi;have e2:i=ms.length:=by
    have:=(aA1.1 hi).1;simp at this;omega
   subst e2;simp at hi;subst hi;refine aA3 ⟨hp,ho,λe=>?_,rfl,rfl⟩;dsimp only at e;rw[e]at h1;simp[Bc]at h1
 | two b op ms ls ho h1 h2 ih1 VX=>
  intro h0;rw[kR]at h0;simp[yc,ho]at h0
theorem abN:∀ (ms:List Nd),(∀ i nd,ms[i]?=some nd->(i=0/\bF nd.op=true/\nd.l=0/\nd.r=0)\/(0<i/\dY nd.op=true/\nd.l=i - 1/\nd.r=0))->0<ms.length->Seg 0 ms:=by
 intro ms;generalize hn:ms.length=n
 induction n generalizing ms with
 | zero=>intro _ h;omega
 | succ n ih=>
  intro h _;obtain⟨VN,nd,rfl⟩:∃ VN nd,ms=VN++[nd]:=⟨ms.dropLast,ms.getLast (by intro e;rw[e]at hn;simp at hn),(List.dropLast_concat_getLast _).symm⟩;rw[aA5,aBn]at hn;have hl:VN.length=n:=by omega
  have wZ:=h n nd (by rw[aBa (by omega),hl];simp);by_cases e:n=0
  ·subst e;have:VN=[]:=List.eq_nil_of_length_eq_zero hl;subst this;rcases wZ with⟨_,h1,h2,h3⟩ | ⟨h1,_⟩
   ·obtain⟨op,l,r⟩:=nd;dsimp only at h1 h2 h3;subst h2;subst h3;exact Seg.leaf 0 op h1
   ·omega
  ·have hs:=ih VN hl (λi m hi=>h i m (by rw[aA9 (aA1.1 hi).1];exact hi)) (by omega);rcases wZ with⟨h1,_⟩ | ⟨_,h1,h2,h3⟩
   ·omega
   ·obtain⟨op,l,r⟩:=nd;dsimp only at h1 h2 h3;subst h2;subst h3;have:=Seg.one 0 op VN h1 hs;rwa [hl,aBo]at this
theorem Oz{ns:List Nd}(hg:Good ns){m:Nat}(h0:0<m)(hm:m<=ns.length):Good (ns.take m):=by
 have:=hg.le;refine⟨by rw[List.length_take];omega,by rw[List.length_take];omega,λi nd hi=>?_⟩;have hl:=(aA1.1 hi).1;rw[List.length_take]at hl;rw[List.getElem?_take_of_lt (by omega)]at hi;exact hg.wf i nd hi
theorem Pj{ns:List Nd}(hg:Good ns){m:Nat}(h0:0<m)(hm:m<=ns.length)(N:Nat):∀ u,dO m (tb (back ns u N)) (tb (back (ns.take m) u N))
 | []=>dO.refl _ _
 | a::u=>by
  have hl:(ns.take m).length=m:=by rw[List.length_take];omega
  have h1:=Pj hg h0 hm N u;have hst:Step (ns.take m) a (tb (gY ns a (back ns u N))) (tb (back ns u N)):=λk nd hk=>by
   have ql:=(aA1.1 hk).1;rw[List.getElem?_take_of_lt (by omega)]at hk;exact lc hg a _ k nd hk
  have:=TI (Oz hg h0 hm) hst (N:=back (ns.take m) u N) (by rw[hl];exact h1.symm);rw[hl]at this;exact this.symm
def NE(ns:List Nd)(σ:Nat->Bool):List Nat->Nat->Bool
 | [],_=>false
 | a::u,b=>Oq ns σ (a::u) b||NE ns σ u b
def JB(ns:List Nd)(σ:Nat->Bool):List Nat->Nat->Bool
 | [],_=>true
 | a::u,b=>Oq ns σ (a::u) b&&JB ns σ u b
theorem Q5{ns:List Nd}(hg:Good ns){σ:Nat->Bool}(hs:xq σ ns)(ht:σ (ns.length - 1)=true)(h6:(iY 0 ns).length<=6):∀ u,sU 6 (NE ns σ u)
 | []=>λa b _ _ _ h=>by simp[NE]at h
 | a::u=>λx y hx hy hsub h=>by
  rw[NE,aBF]at h ⊢;exact h.imp (CV hg hs ht h6 (by simp) x y hx hy hsub) (Q5 hg hs ht h6 u x y hx hy hsub)
theorem Pn{ns:List Nd}(hg:Good ns){σ:Nat->Bool}(hs:xq σ ns)(ht:σ (ns.length - 1)=true)(h6:(iY 0 ns).length<=6):∀ u,sU 6 (JB ns σ u)
 | []=>λa b _ _ _ h=>rfl
 | a::u=>λx y hx hy hsub h=>by
  rw[JB,aBz]at h ⊢;exact⟨CV hg hs ht h6 (by simp) x y hx hy hsub h.1,Pn hg hs ht h6 u x y hx hy hsub h.2⟩
theorem Tf{ns:List Nd}(hg:Good ns){aa:Nat->Bool}(hl:jQ ns (bH ns ns.length) aa)(us:List (List Nat))(hu:∀ u∈us,∀ x∈u,x<8)
  (hd:(us.map λu=>gv (dW ns aa (bu ns aa) u)).Nodup) (F:List Nat->Nat->Bool) (hF:∀ u∈us,sU 6 (F u)) (P:Nat->Nat) (hP:∀ N,P N<2 ^ 6) (C:Nat->Bool->Bool)
  (hC:∀ u∈us,∀ N,(back ns u N).testBit (ns.length - 1)=C N (F u (P N))):us.length<=796594176:=by
 have key:(us.map λu=>tab 6 (F u)).Nodup:=by
  rw[List.nodup_iff_pairwise_ne,List.pairwise_map]at hd ⊢;refine List.Pairwise.imp_of_mem ?_ hd;intro u v Hu Oa hne e;refine hne (Sq λN hN=>?_);rw[Bool.eq_iff_iff,mK hg hl u (hu u Hu),mK hg hl v (hu v Oa),hC u Hu,hC v Oa,VA e (hP N)]
 have:=zi _ m6 key (λx hx=>by
  obtain⟨u,Hu,rfl⟩:=aBM.1 hx;exact aac (hF u Hu))
 rw[aaf]at this;simpa using this
theorem aip{ns:List Nd}(hg:Good ns)(ht:Seg 0 ns){aa:Nat->Bool}(hl:jQ ns (bH ns ns.length) aa)(us:List (List Nat))(hu:∀ u∈us,2<=u.length/\∀ x∈u,x<8)
  (hd:(us.map λu=>gv (dW ns aa (bu ns aa) u)).Nodup):us.length<=796594176:=by
 have h8:=hg.le;by_cases h6:(iY 0 ns).length<=6
 ·exact aiq hg ht h6 hl us (λu h=>⟨λe=>by have:=(hu u h).1;rw[e]at this;simp at this,(hu u h).2⟩) hd
 ·obtain⟨c1,c2⟩:=JK ht;rw[IU,show ns.countP (λnd=>wU nd.op)=mW EC ns from rfl]at h6;have n2:mW yc ns=0:=by omega
  have n3:mW Bc ns=0:=by omega
  have hlen:ns.length=8:=by omega
  have hch:=ZC ht n2 n3;have wf:=hg.wf;have hg7:=Oz hg (m:=7) (by omega) (by omega);have l7:(ns.take 7).length=7:=by rw[List.length_take];omega
  have s7:Seg 0 (ns.take 7):=abN _ (λi nd hi=>by
   have hil:=(aA1.1 hi).1;rw[List.getElem?_take_of_lt (by omega)]at hi;rcases hch i nd hi with⟨h1,h2⟩ | ⟨h1,h2,_,h3,h4⟩
   ·rcases wf i nd hi with⟨_,a,b⟩ | ⟨a,b,_⟩ | ⟨a,b,_⟩
    ·exact aA2 ⟨h1,h2,a,b⟩
    ·omega
    ·omega
   ·exact aA3 ⟨h1,h2,by omega,h4⟩) (by omega)
  have h67:(iY 0 (ns.take 7)).length<=6:=by
   obtain⟨d1,d2⟩:=JK s7;rw[IU,show (ns.take 7).countP (λnd=>wU nd.op)=mW EC (ns.take 7) from rfl];omega
  obtain⟨σ,hr,Oc⟩:=QI s7 true;have hs:xq σ (ns.take 7):=λi nd hi=>by have:=Oc i nd hi;rwa [aBo]at this
  rw[aBo]at hr;obtain⟨nd,hn⟩:∃ nd,ns[7]?=some nd:=⟨ns[7],aAV (by omega)⟩;have hP:∀ N,pj (ns.take 7) σ N<2 ^ 6:=λN=>Tw _ (by omega);have b6:∀ u N,u≠[]->(back ns u N).testBit 6=Oq (ns.take 7) σ u (pj (ns.take 7) σ N):=λu N hne=>by
   rw[Sj hg7 hs h67 hne,l7];exact Pj hg (m:=7) (by omega) (by omega) N u 6 (by omega)
  rcases hch 7 nd hn with⟨h1,_⟩ | ⟨_,h1,h2,h3,_⟩
  ·omega
  ·have hstep:∀ a u N,(back ns (a::u) N).testBit 7=bi nd.op a ((back ns (a::u) N).testBit 6) ((back ns (a::u) N).testBit nd.r) ((back ns u N).testBit 7) ((back ns u N).testBit 6):=λa u N=>by
    have:=lc hg a (back ns u N) 7 nd hn;simp only[tb]at this;rw[show nd.l=6 by omega]at this;exact this
   simp only[dY,aBF,beq_iff_eq]at h1;rcases h1 with((h1 | h1) | h1) | h1
   ·exact absurd h1 h2
   ·refine Tf hg hl us (λu h=>(hu u h).2) hd (λu=>Oq (ns.take 7) σ u.tail) (λu h=>?_) (pj (ns.take 7) σ) hP (λ_ b=>b) (λu h N=>?_)
    ·obtain⟨q1,_⟩:=hu u h;refine CV hg7 hs hr h67 ?_;cases u with
     | nil=>simp at q1
     | cons a u=>cases u with
      | nil=>simp at q1
      | cons b u=>simp
    ·obtain⟨q1,_⟩:=hu u h;cases u with
     | nil=>simp at q1
     | cons a u=>
      rw[hlen];show (back ns (a::u) N).testBit 7=_;rw[hstep];simp only[bi,h1];simp only[List.tail_cons];exact b6 u N (by intro e;rw[e]at q1;simp at q1)
   ·have root:∀ u N,(back ns u N).testBit 7=(NE (ns.take 7) σ u (pj (ns.take 7) σ N)||N.testBit 7):=by
     intro u N
     induction u with
     | nil=>simp[NE,back]
     | cons a u ih=>
      rw[hstep];simp only[bi,h1];rw[NE,<-b6 (a::u) N (by simp),Bool.or_assoc,<-ih];simp
    refine Tf hg hl us (λu h=>(hu u h).2) hd (NE (ns.take 7) σ) (λu _=>Q5 hg7 hs hr h67 u) (pj (ns.take 7) σ) hP (λN b=>b||N.testBit 7) (λu h N=>?_);rw[hlen];exact root u N
   ·have root:∀ u N,(back ns u N).testBit 7=(JB (ns.take 7) σ u (pj (ns.take 7) σ N)&&N.testBit 7):=by
     intro u N
     induction u with
     | nil=>simp[JB,back]
     | cons a u ih=>
      rw[hstep];simp only[bi,h1];rw[JB,<-b6 (a::u) N (by simp),Bool.and_assoc,<-ih];simp
    refine Tf hg hl us (λu h=>(hu u h).2) hd (JB (ns.take 7) σ) (λu _=>Pn hg7 hs hr h67 u) (pj (ns.take 7) σ) hP (λN b=>b&&N.testBit 7) (λu h N=>?_);rw[hlen];exact root u N
theorem few{ns:List Nd}(hg:Good ns)(ht:Seg 0 ns){aa:Nat->Bool}(hl:jQ ns (bH ns ns.length) aa)(us:List (List Nat))(hu:∀ u∈us,∀ x∈u,x<8)
  (hd:(us.map λu=>gv (dW ns aa (bu ns aa) u)).Nodup):us.length<=796594185:=by
 have hnd:us.Nodup:=by
  rw[List.nodup_iff_pairwise_ne,List.pairwise_map]at hd;rw[List.nodup_iff_pairwise_ne];exact hd.imp λh e=>h (by rw[e])
 have h1:=aip hg ht hl (us.filter λu=>decide (2<=u.length)) (λu h=>by
  rw[List.mem_filter]at h;exact⟨by simpa using h.2,hu u h.1⟩) (List.Nodup.sublist (List.Sublist.map _ List.filter_sublist) hd)
 have h2:(us.filter λu=>!decide (2<=u.length)).length<=9:=by
  have:=zi (us.filter λu=>!decide (2<=u.length)) ([]::(List.range 8).map λx=>[x]) (hnd.sublist List.filter_sublist) (λu h=>by
   rw[List.mem_filter]at h;obtain⟨h3,h4⟩:=h;cases u with
   | nil=>simp
   | cons a u=>cases u with
    | nil=>
     have:=hu [a] h3 a (by simp);simp[this]
    | cons b u=>simp at h4)
  simpa using this
 have h3:=Ie (λu:List Nat=>decide (2<=u.length)) us;omega
def dZ(xs:List Nat):Nat->Nat->Nat:=λi l=>xs.getD (8*i+l) 0
theorem vz(xs:List Nat)(p:Nat):dZ xs (p / 8) (p % 8)=xs.getD p 0:=by unfold dZ;rw[show 8*(p / 8)+p % 8=p by omega]
theorem fq{xs:List Nat}{x p:Nat}(h:p<xs.length):(xs++[x]).getD p 0=xs.getD p 0:=by simp[List.getD,aA9 h]
theorem dN(xs:List Nat)(x:Nat):(xs++[x]).getD xs.length 0=x:=by simp[List.getD]
theorem mP{xs:List Nat}{x:Nat}:∀ p,p<=xs.length->met (dZ (xs++[x])) p=met (dZ xs) p
 | 0,_=>rfl
 | p+1,h=>by rw[met,met,mP p (by omega),vz,vz,fq (by omega)]
section
variable (ns:List Nd) (aa aX:Nat->Bool)
structure jk (us:List (List Nat)) (xs:List Nat):Prop where
 first:us[0]?=some []
 Jb:∀ u∈us,∀ x∈u,x<8
 FU:(us.map λu=>gv (dW ns aa aX u)).Nodup
 ok:∀ p,p<xs.length->∃ u0 u1,us[p / 8]?=some u0/\us[xs.getD p 0]?=some u1/\geq (dW ns aa aX u1) (stepG ns aa (dW ns aa aX u0) (p % 8))=true
 num:us.length=met (dZ xs) xs.length
 I7:∀ p,p<xs.length->p / 8<met (dZ xs) p/\xs.getD p 0<=met (dZ xs) p
end
variable {ns:List Nd} {aa aX:Nat->Bool} {us:List (List Nat)} {xs:List Nat}
theorem KF:jk ns aa aX [[]] []:=by
 refine⟨rfl,λu hu x hx=>?_,by simp,λp hp=>by simp at hp,rfl,λp hp=>by simp at hp⟩;simp at hu;subst hu;simp at hx
theorem Tg(h:jk ns aa aX us xs){u0 u1:List Nat}{j:Nat}(h0:us[xs.length / 8]?=some u0)(h1:us[j]?=some u1)(hq:geq (dW ns aa aX u1) (stepG ns aa (dW ns aa aX u0) (xs.length % 8))=true):jk ns aa aX us (xs++[j]):=by
 have hj:=(aA1.1 h1).1;have hi:=(aA1.1 h0).1;have hn:=h.num;refine⟨h.first,h.Jb,h.FU,λp hp=>?_,?_,λp hp=>?_⟩
 ·rw[aA5,aBn]at hp;by_cases e:p=xs.length
  ·subst e;rw[dN];exact⟨u0,u1,h0,h1,hq⟩
  ·rw[fq (by omega)];exact h.ok p (by omega)
 ·rw[aA5,aBn,met,mP _ (aAU _),vz,dN,<-h.num];omega
 ·rw[aA5,aBn]at hp;rw[mP p (by omega)];by_cases e:p=xs.length
  ·subst e;rw[dN,<-h.num];exact⟨hi,by omega⟩
  ·rw[fq (by omega)];exact h.I7 p (by omega)
theorem akX{g k:Nat->Bool}(h:geq g k=false):gv g≠gv k:=λe=>by
 have:geq g k=true:=jl.2 (akW e);rw[h]at this;cases this
theorem Ti(h:jk ns aa aX us xs){u0:List Nat}(h0:us[xs.length / 8]?=some u0)(hall:∀ u∈us,geq (dW ns aa aX u) (stepG ns aa (dW ns aa aX u0) (xs.length % 8))=false):jk ns aa aX (us++[u0++[xs.length % 8]]) (xs++[us.length]):=by
 have hi:=(aA1.1 h0).1;have hn:=h.num;have old:∀ {i:Nat} {u:List Nat},us[i]?=some u->(us++[u0++[xs.length % 8]])[i]?=some u:=λ{i u} hu=>by
  rw[aA9 (aA1.1 hu).1];exact hu
 refine⟨old h.first,λu hu=>?_,?_,λp hp=>?_,?_,λp hp=>?_⟩
 ·rcases aBy.1 hu with hu | hu
  ·exact h.Jb u hu
  ·simp at hu;subst hu;intro x hx;rcases aBy.1 hx with hx | hx
   ·exact h.Jb u0 (aBB h0) x hx
   ·simp at hx;omega
 ·rw[aBE,List.nodup_append];refine⟨h.FU,by simp,λa ha b hb=>?_⟩;simp at hb;subst hb;obtain⟨u,hu,rfl⟩:=aBM.1 ha;rw[qY];exact akX (hall u hu)
 ·rw[aA5,aBn]at hp;by_cases e:p=xs.length
  ·subst e;rw[dN];refine⟨u0,u0++[xs.length % 8],old h0,by simp,?_⟩;rw[qY];exact jl.2 λj _=>rfl
  ·rw[fq (by omega)];obtain⟨a,b,h1,h2,h3⟩:=h.ok p (by omega);exact⟨a,b,old h1,old h2,h3⟩
 ·rw[aA5,aBn,aA5,aBn,met,mP _ (aAU _),vz,dN,<-h.num];omega
 ·rw[aA5,aBn]at hp;rw[mP p (by omega)];by_cases e:p=xs.length
  ·subst e;rw[dN,<-h.num];exact⟨hi,by omega⟩
  ·rw[fq (by omega)];exact h.I7 p (by omega)
theorem Jo(hg:Good ns)(ht:Seg 0 ns)(hl:jQ ns (bH ns ns.length) aa)(h:jk ns aa (bu ns aa) us xs):us.length<=796594185:=few hg ht hl us h.Jb h.FU
theorem DV(h:jk ns aa aX us xs)(he:xs.length=8*us.length):ji us.length (dZ xs):=by
 refine⟨λp hp=>?_,?_⟩
 ·rw[vz];exact h.I7 p (by omega)
 ·rw[<-he,<-h.num]
open Go.RowKit
theorem bC.num{w w':World}{T b o:Nat}{row:Option Nat}{g:Nat->Bool}(h:bC w b o g)(n:sW w w' T row)(h1:b≠T)(h2:row≠some b):bC w' b o g:=
 ⟨λj hj=>(n.cell (p:=⟨b,o+j,none⟩) h.lt h1 (λe=>h2 e.symm)).trans (h.c j hj),λj hj=>(n.frozen (p:=⟨b,o+j,none⟩) h.lt h1 (λe=>h2 e.symm)).trans (h.f j hj)⟩
theorem ahS{w w':World}{T B e s n:Nat}{row:Option Nat}{v:Value}{xs:List Value}(h:w.ownsRow B e s v n xs)(f:sW w w' T row)(h1:v.ownBlock≠some T)(h2:v.ownBlock=none\/v.ownBlock≠row):w'.ownsRow B e s v n xs:=by
 refine⟨h.1,?_⟩;rcases h.2 with h0 | ⟨g,cap,cur,ev,hb,hg,r⟩
 ·exact aA2 h0
 ·subst ev;refine aA3 ⟨g,cap,cur,rfl,hb,?_,r⟩;rw[f.block g (dB hg) (λe=>h1 (by rw[<-e];rfl)) (λe=>by
   rcases h2 with h2 | h2
   ·simp[Value.ownBlock]at h2
   ·exact h2 (by rw[<-e];rfl))]
  exact hg
theorem abU{B0:Nat}{a w w':World}{T:Nat}{row:Option Nat}(h:Below B0 a w)(f:sW w w' T row)(hB:B0<=w.heap.size)(h1:B0<=T)(h2:∀ k,row=some k->B0<=k):Below B0 a w':=
 ⟨f.os.trans h.os,f.tape.trans h.tape,f.output.trans h.output,aBO h.size f.size,λk hk=>(f.block k (by omega) (by omega) (λe=>by have:=h2 k e.symm;omega)).trans (h.block k hk)⟩
theorem VK{w:World}{cs:Array Value}{t n size:Nat}(hs:cs.size=n*size)(hn:n<=maxLen):(w.alloc (.cells cs t)).ownsRow w.heap.size t size (.slice (some ⟨w.heap.size,0,none⟩) n n) n cs.toList:=by
 refine⟨by simpa using hs,aA3 ⟨w.heap.size,n,cs,rfl,aAU _,heap_alloc_last w _,aAU _,hn,hs,?_⟩⟩;rw[List.take_of_length_le (by simp;omega)]
def Gi(ns:List Nd)(aa aX:Nat->Bool)(us:List (List Nat))(xs:List Nat)(SS:List St):Prop:=∀ i s,SS[i]?=some s->∃ u,us[i]?=some u/\8*i+8<=xs.length/\s=⟨qx aa (dW ns aa aX u),(List.range 8).map λl=>((xs.getD (8*i+l) 0:Nat):Int)⟩
theorem Nh{ns:List Nd}{aa aX:Nat->Bool}{us vs:List (List Nat)}{xs ys:List Nat}{SS:List St}(h:Gi ns aa aX us xs SS):Gi ns aa aX (us++vs) (xs++ys) SS:=λi s hi=>by
 obtain⟨u,h1,h2,h3⟩:=h i s hi;refine⟨u,by rw[aA9 (aA1.1 h1).1];exact h1,by rw[aA5];omega,?_⟩;rw[h3];congr 1;refine aBP λl hl=>?_;have:l<8:=by simpa using hl
 simp[List.getD,aA9 (show 8*i+l<xs.length by omega)]
theorem Tryz.Ml:(Tryz.prog.info? 119).map (λi=>(i.zero,i.size,i.bytes))=some (some (.agg #[.int .i64 0,.int .i64 0,.int .i64 0,.int .i64 0,.int .i64 0,.int .i64 0,.int .i64 0,.int .i64 0,.int .i64 0]),9,72):=by kernel_rfl
structure mY (w:World) (b:Nat) (o:Nat) (xs:List Nat):Prop where
 c0:w.cell? ⟨b,0,none⟩=some (.int .i64 (o:Nat))
 c:∀ m,m<8->w.cell? ⟨b,1+m,none⟩=some (.int .i64 (xs.getD m 0:Nat))
 f:∀ m,m<9->w.frozen? ⟨b,m,none⟩=false
theorem mY.lt{w:World}{b o:Nat}{xs:List Nat}(h:mY w b o xs):b<w.heap.size:=World.block_lt_of_cell? w ⟨b,0,none⟩ h.c0
theorem mY.below{w w':World}{b o:Nat}{xs:List Nat}(h:mY w b o xs)(hb:Below w.heap.size w w'):mY w' b o xs:=
 ⟨(hb.cell (p:=⟨b,0,none⟩) h.lt).trans h.c0,λm hm=>(hb.cell (p:=⟨b,1+m,none⟩) h.lt).trans (h.c m hm),λm hm=>(hb.frozen (p:=⟨b,m,none⟩) h.lt).trans (h.f m hm)⟩
theorem mY.num{w w':World}{T b o:Nat}{row:Option Nat}{xs:List Nat}(h:mY w b o xs)(n:sW w w' T row)(h1:b≠T)(h2:row≠some b):mY w' b o xs:=
 ⟨(n.cell (p:=⟨b,0,none⟩) h.lt h1 (λe=>h2 e.symm)).trans h.c0,λm hm=>(n.cell (p:=⟨b,1+m,none⟩) h.lt h1 (λe=>h2 e.symm)).trans (h.c m hm),λm hm=>(n.frozen (p:=⟨b,m,none⟩) h.lt h1 (λe=>h2 e.symm)).trans (h.f m hm)⟩
theorem mY.set{w:World}{b o:Nat}{xs:List Nat}(h:mY w b o xs){j:Nat}(hl:xs.length<8):mY (w.setCell ⟨b,1+xs.length,none⟩ (.int .i64 (j:Nat))) b o (xs++[j]):=by
 refine⟨?_,λm hm=>?_,λm hm=>by rw[aBe];exact h.f m hm⟩
 ·rw[aA0 _ ⟨b,1+xs.length,none⟩ ⟨b,0,none⟩ _ (λq=>by have:=congrArg Addr.off q;simp at this)];exact h.c0
 ·by_cases e:m=xs.length
  ·subst e;rw[aBr _ _ _ (h.c _ hm),dN]
  ·rw[aA0 _ ⟨b,1+xs.length,none⟩ ⟨b,1+m,none⟩ _ (λq=>e (by have:=congrArg Addr.off q;simp at this;omega)),h.c m hm];by_cases h2:m<xs.length
   ·rw[fq h2]
   ·have:(xs++[j]).getD m 0=0:=by simp[List.getD,List.getElem?_eq_none (show (xs++[j]).length<=m by simp;omega)]
    rw[this];simp[List.getD,List.getElem?_eq_none (show xs.length<=m by omega)]
theorem Ra(w:World)(o:Nat)(t:TypeId):mY (w.alloc (.cells #[.int .i64 (o:Nat),.int .i64 0,.int .i64 0,.int .i64 0,.int .i64 0,.int .i64 0,.int .i64 0,.int .i64 0,.int .i64 0] t)) w.heap.size o []:=by
 refine⟨by simp,λm hm=>?_,λm hm=>by simp⟩;have:m=0\/m=1\/m=2\/m=3\/m=4\/m=5\/m=6\/m=7:=by omega
 rcases this with rfl | rfl | rfl | rfl | rfl | rfl | rfl | rfl <;> simp
theorem ul.set{w:World}{B T:Nat}{v:Value}{gs:List (Nat->Bool)}(h:ul w B T v gs)(p:Addr)(u:Value)(h1:p.block≠T)(h2:v.ownBlock≠some p.block):ul (w.setCell p u) B T v gs:=
 ⟨by rw[aA0 _ p ⟨T,0,none⟩ _ (λq=>h1 (congrArg Addr.block q))];exact h.c,by rw[aBe];exact h.f,
  h.own.kept (row:=some p.block) ⟨rfl,rfl,rfl,by rw[aBj];exact aAU _,λq hq hne=>aBv _ _ _ _ (λe=>hne (by rw[e]))⟩ (aA3 h2),h.ne⟩
theorem adA{w:World}{B e s n:Nat}{v:Value}{xs:List Value}(h:w.ownsRow B e s v n xs)(p:Addr)(u:Value)(h2:v.ownBlock≠some p.block):(w.setCell p u).ownsRow B e s v n xs:=
 h.kept (row:=some p.block) ⟨rfl,rfl,rfl,by rw[aBj];exact aAU _,λq hq hne=>aBv _ _ _ _ (λe=>hne (by rw[e]))⟩ (aA3 h2)
theorem ul.grown{w w':World}{B T:Nat}{v:Value}{gs:List (Nat->Bool)}{row:Option Nat}(h:ul w B T v gs)(hg:w.grownBy w' row)(h1:row≠some T)(h2:v.ownBlock=none\/v.ownBlock≠row):ul w' B T v gs:=
 ⟨hg.cell h.c (λe=>h1 e.symm),(aBg (a:=⟨T,0,none⟩) (hg.block T h.lt (λe=>h1 e.symm))).trans h.f,h.own.kept hg h2,h.ne⟩
theorem YO{l:List Nat}(h:l.length=8):∃ a0 a1 a2 a3 a4 a5 a6 a7,l=[a0,a1,a2,a3,a4,a5,a6,a7]:=by
 match l,h with
 | [a0,a1,a2,a3,a4,a5,a6,a7],_=>exact⟨_,_,_,_,_,_,_,_,rfl⟩
theorem abO(w:World)(cs:List Value)(t:TypeId):∀ j u,cs[j]?=some u->(w.alloc (.cells cs.toArray t)).cell? ((⟨w.heap.size,0,none⟩:Addr).add j)=some u:=λj u hj=>by
 rw[Addr.add_mid,aBJ (w.alloc (.cells cs.toArray t)) w.heap.size (0+j) cs.toArray t (0,0) (heap_alloc_last w _)];simpa using hj
def KU(ns:List Nd)(aa aX:Nat->Bool)(w:World)(e:Ending)(w':World):Prop:=
 ∃ us xs SS v,e=.returned v/\jk ns aa aX us xs/\xs.length=8*us.length/\SS.length=us.length/\Gi ns aa aX us xs SS/\w'.ownsRow w.heap.size 119 9 v us.length (ik SS)/\Below w.heap.size w w'
theorem XD(P:Nat)(ns:List Nd)(aa aX:Nat->Bool)(w:World)(h8:ns.length<=8)(Sa:∀ us xs,jk ns aa aX us xs->us.length<=796594185)(ho:Au w P ns aa aX) :
  Calls Tryz.prog 32 #[.pointer (some ⟨P,0,none⟩)] w (KU ns aa aX w):=by
 have hP:=ho.lt;have HO:=hid ho;have yL:=hid Sa;obtain⟨i0,hi,aR,aP,aN⟩:=info_parts Tryz.Ml;clear ho Sa;unfold KU;go_enter Tryz.func32,Tryz.ntmps32;go_wp2_with fail;refine(abV P aX _ HO.out.aX).mono ?_;rintro e w1 ⟨rfl,aM⟩;have hs1:=aM.size;go_wp2_with (refine bW rfl (.tmp 3) (.tmp 12) rfl w1.heap.size 0 aX rfl rfl (gN w1).there ?_);intro w2 S2;have G3:=hid S2.at_;have aW:Hid (Below w.heap.size w w2):=hid (S2.bG _ _ hs1 (aM.alloc hs1 _));have lm:w.heap.size<w2.heap.size:=by rw[S2.size,size_alloc];omega
 clear S2 aM;have EX0:Hid (ul ((w2.alloc (.cells (gv aX).toArray 61)).alloc (.cells #[.slice (some ⟨w2.heap.size,0,none⟩) 1 1] 115)) w2.heap.size (w2.heap.size+1) (.slice (some ⟨w2.heap.size,0,none⟩) 1 1) ([[]].map (dW ns aa aX))):=hid ⟨by simp,by simp,by
   have:=(VK (w:=w2) (cs:=(gv aX).toArray) (t:=61) (n:=1) (size:=256) (by simp[kD]) (by unfold maxLen;omega)).alloc (.cells #[.slice (some ⟨w2.heap.size,0,none⟩) 1 1] 115);simpa [mV,dW] using this,by simp[Value.ownBlock]⟩
 have iN:=hid ((aW.out.alloc (by omega) (.cells (gv aX).toArray 61)).alloc (by simp;omega) (.cells #[.slice (some ⟨w2.heap.size,0,none⟩) 1 1] 115));go_wp2_with (first | (refine aQ rfl (.tmp 3) rfl w1.heap.size 0 aX rfl G3.out ?_) | (refine xM rfl (.tmp 13) rfl aX rfl ?_))
 generalize hBE:w2.heap.size=B at *
 go_loopw [5,6] (λvs i wq=>∃ (k:Nat) (us:List (List Nat)) (xs:List Nat) (v:Value) (SS:List St),i=.int .i64 k/\k<=us.length/\xs.length=8*k/\SS.length=k/\Hid (jk ns aa aX us xs)/\Hid (Gi ns aa aX us xs SS)/\Hid (ul wq B (B+1) v (us.map (dW ns aa aX)))/\Hid (wq.ownsRow w.heap.size 119 9 vs k (ik SS))/\Hid (vs.ownBlock≠some (B+1))/\Hid (Below w.heap.size w wq)/\B+1<wq.heap.size) (λ_ i _=>796594190 - (intOf i).toNat)
 case atStart=>exact⟨0,[[]],[],_,[],rfl,by simp,rfl,rfl,hid KF,hid (λi s h=>by simp at h),EX0,hid (aBh _ _ _ _),hid (by simp[Value.ownBlock]),iN,by simp;omega⟩
 case round=>
  obtain⟨k,us,xs,v,SS,rfl,hk,zo,mG,HE,HS,HX,iF,HNV,HB,hsz⟩:=hrel;rename World=>W0;have hfw:=yL.out us xs HE.out;have cT:=HX.out.c;obtain⟨ao,cp,rfl⟩:=ai HX.out.own;rw[aBG]at *;by_cases hlk:k<us.length
  ·obtain⟨u0,DI⟩:∃ u0,us[k]?=some u0:=⟨us[k],aAV hlk⟩;obtain⟨mH,p9,e2,Bj⟩:=F9 HX.out.own;simp only[Value.slice.injEq,aBG]at e2;obtain⟨rfl,_,rfl⟩:=e2;obtain⟨gc,e3,ako,RY⟩:=Bj (by rw[aBG];omega);subst e3;have GK:=hid (RY k (dW ns aa aX u0) (by rw[aBk,DI];rfl));have tq:=hid DI;clear RY Bj DI;have Lf:=hid (λq (h:(Value.slice (some ⟨gc,0,none⟩) us.length cp).ownBlock=some q)=>(HX.out.own.lt q h).2);have HSB:=hid (λq h=>(iF.out.lt q h).2);go_wp2_with (first | (refine aQ rfl (.tmp 26) rfl gc (k*256) _ rfl GK.out ?_) | (refine bW rfl (.tmp 7) (.tmp 27) rfl W0.heap.size 0 (dW ns aa aX u0) rfl rfl (gN W0).there ?_))
   intro w2' S2;have bR:Below W0.heap.size W0 w2':=S2.bG _ _ (aAU _) ((aAW _ _).alloc (aAU _) _);have A7:=hid S2.at_;have Gn:=hid (HX.out.below bR);have ama:=hid (ae iF.out bR);have afi:=hid (HB.out.trans (bR.mono (by omega)));have oO:w2'.heap.size=W0.heap.size+1:=by rw[S2.size,size_alloc]
   clear S2 bR GK HX iF HB;go_wp2_with (refine aQ rfl (.tmp 7) rfl W0.heap.size 0 _ rfl A7.out ?_);refine(UV P ns aa aX _ w2' (HO.out.below afi.out hP)).mono ?_;rintro e w3 ⟨rfl,aI⟩;have A7:=hid (A7.out.below aI (by omega));have Ul:=hid (Gn.out.below aI);have al9:=hid (ae ama.out aI);have cu:=hid (afi.out.trans (aI.mono (by omega)));have vF:=aI.size;clear aI Gn ama afi;generalize hout:qx aa (dW ns aa aX u0)=out at *;have asM:=hid hout;clear hout;have ba:=(aAW w3.heap.size w3).alloc (aAU _) (.cells #[.int .i64 (out:Nat),.int .i64 0,.int .i64 0,.int .i64 0,.int .i64 0,.int .i64 0,.int .i64 0,.int .i64 0,.int .i64 0] 119);have N4:=hid (Ra w3 out 119);have A74:=hid (A7.out.below ba (by omega));have Uk:=hid (Ul.out.below ba);have asN:=hid (ae al9.out ba);have UJ:=hid (cu.out.trans (ba.mono (by omega)));clear ba A7 Ul al9 cu;go_wp2_with fail
   go_loopw [9] (λi wq=>∃ (l:Nat) (us:List (List Nat)) (xs:List Nat) (v:Value),i=.int .i64 l/\l<=8/\xs.length=8*k+l/\Hid (us[k]?=some u0)/\Hid (jk ns aa aX us xs)/\Hid (Gi ns aa aX us xs SS)/\Hid (ul wq B (B+1) v (us.map (dW ns aa aX)))/\Hid (v.ownBlock≠some W0.heap.size)/\Hid (v.ownBlock≠some w3.heap.size)/\Hid (bC wq W0.heap.size 0 (dW ns aa aX u0))/\Hid (mY wq w3.heap.size out (xs.drop (8*k)))/\Hid (wq.ownsRow w.heap.size 119 9 u5 k (ik SS))/\Hid (Below w.heap.size w wq)/\w3.heap.size<wq.heap.size) (λi _=>8 - (intOf i).toNat)
   case atStart=>exact⟨0,us,xs,_,rfl,by omega,by omega,tq,HE,HS,Uk,hid (λe=>by have:=Lf.out _ e;omega),hid (λe=>by have:=Lf.out _ e;omega),A74,by rw[List.drop_of_length_le (by omega)];exact N4,asN,UJ,by simp⟩
   case round=>
    obtain⟨l,us,xs,v,rfl,hl8,zo,tq,HE,HS,HX,HV7,HV8,H7,HN,iF,HB,ma⟩:=hrel;rename World=>W3;by_cases jW:l<8
    ·have ST:=λW (h:Au W P ns aa aX)=>ac0 P l ns aa aX (dW ns aa aX u0) W jW h8 h;go_wp2_with (refine aQ rfl (.tmp 7) rfl W0.heap.size 0 _ rfl H7.out ?_);refine(ST _ (HO.out.below HB.out hP)).mono ?_;rintro e w5 ⟨rfl,bV⟩;have tL:=bV.size;clear ST;go_wp2_with (refine bW rfl (.tmp 10) (.tmp 39) rfl w5.heap.size 0 (stepG ns aa (dW ns aa aX u0) l) rfl rfl (gN w5).there ?_);intro w6 S6;have WI:Below W3.heap.size W3 w6:=S6.bG _ _ tL (bV.alloc tL _);have A10:=hid S6.at_;have tK:w6.heap.size=w5.heap.size+1:=by rw[S6.size,size_alloc]
     have Gm:=hid (HX.out.below WI);have H76:=hid (H7.out.below WI (by omega));have HN6:=hid (HN.out.below WI);have afd:=hid (ae iF.out WI);have kG:=hid (HB.out.trans (WI.mono (by omega)));have arB:=hid (λq (h:v.ownBlock=some q)=>(HX.out.own.lt q h));clear S6 WI bV HX H7 HN iF HB;have hfw:=yL.out us xs HE.out;go_wp2_with (refine aQ rfl (.tmp 10) rfl w5.heap.size 0 _ rfl A10.out ?_);refine(Ya B (B+1) v (us.map (dW ns aa aX)) (stepG ns aa (dW ns aa aX u0) l) w6 Gm.out (by omega) (by rw[aBG];omega)).mono ?_;rintro e w7 ⟨j,v7,gs7,rfl,hEX,Wo,lL⟩;have ET:xs.length / 8=k/\xs.length % 8=l:=by omega
     obtain⟨Vy,rfl,hE7,hU7,hS7,hv7⟩:∃ Vy,gs7=Vy.map (dW ns aa aX)/\jk ns aa aX Vy (xs++[j])/\Vy[k]?=some u0/\Gi ns aa aX Vy (xs++[j]) SS/\(v7.ownBlock=v.ownBlock\/∃ q,v7.ownBlock=some q/\w6.heap.size<=q):=by
      rcases lL with⟨rfl,rfl,g0,h1,h2⟩ | ⟨rfl,rfl,h1,h2⟩
      ·rw[aBk,Option.map_eq_some_iff]at h1;obtain⟨u1,h3,rfl⟩:=h1;have h4:=Nh (vs:=[]) (ys:=[j]) HS.out;rw[List.append_nil]at h4;exact⟨us,rfl,Tg HE.out (by rw[ET.1];exact tq.out) h3 (by rw[ET.2];exact h2),tq.out,h4,aA2 rfl⟩
      ·refine⟨us++[u0++[l]],by rw[aBE,List.map_singleton,qY],?_,?_,Nh HS.out,h1⟩
       ·have:=Ti HE.out (u0:=u0) (by rw[ET.1];exact tq.out) (λu hu=>by rw[ET.2];exact h2 _ (aBM.2 ⟨u,hu,rfl⟩));rw[ET.2]at this;rw[aBG];exact this
       ·rw[aA9 (aA1.1 tq.out).1];exact tq.out
     have hrow:∀ q,v.ownBlock=some q->B<=q:=λq h=>(arB.out q h).1;have H77:=hid (H76.out.num Wo (by omega) HV7.out);have HN7:=hid (HN6.out.num Wo (by omega) HV8.out);have aj1:u5.ownBlock≠some w3.heap.size:=λe=>by have:=HSB.out _ e;omega
     have al8:=hid (ahS afd.out Wo HNV.out (aC afd.out Gm.out.own (by decide)));have iG:=hid (abU kG.out Wo (by omega) (by omega) (λq h=>by have:=hrow q h;omega));have vE:=Wo.size;have ajN:v7.ownBlock≠some W0.heap.size:=by
      rcases hv7 with h | ⟨q,h,hq⟩
      ·rw[h];exact HV7.out
      ·rw[h];intro e;cases e;omega
     have aec:v7.ownBlock≠some w3.heap.size:=by
      rcases hv7 with h | ⟨q,h,hq⟩
      ·rw[h];exact HV8.out
      ·rw[h];intro e;cases e;omega
     have Oj:(xs.drop (8*k)).length=l:=by rw[List.length_drop];omega
     have n1:=HN7.out.c l jW;have n2:=HN7.out.f (1+l) (by omega);have D8:=hid (HN7.out.set (j:=j) (by rw[Oj];exact jW));rw[Oj,show xs.drop (8*k)++[j]=(xs++[j]).drop (8*k) by rw[List.drop_append_of_le_length (by omega)]]at D8;have D7:=hid (H77.out.other ⟨w3.heap.size,1+l,none⟩ (.int .i64 (j:Nat)) (aA2 (by show w3.heap.size≠W0.heap.size;omega)));have DX:=hid (hEX.set ⟨w3.heap.size,1+l,none⟩ (.int .i64 (j:Nat)) (by show w3.heap.size≠B+1;omega) aec);have DOS:=hid (adA al8.out ⟨w3.heap.size,1+l,none⟩ (.int .i64 (j:Nat)) aj1);have DB:=hid (iG.out.setCell (p:=⟨w3.heap.size,1+l,none⟩) (by show w.heap.size<=w3.heap.size;omega) (.int .i64 (j:Nat)));have asC:=hid ajN;have asB:=hid aec;have HE7:=hid hE7;have HU7:=hid hU7;have HS7:=hid hS7;clear lL hEX Wo hv7 ajN aec hE7 hU7 hS7 hrow aj1 H76 HN6 afd kG Gm H77 HN7 al8 iG HE tq HS HV7 HV8 A10;generalize (xs.drop (8*k)).getD l 0=ov at *;go_wp2_with fail;go_roundw
     case rel=>exact⟨l+1,Vy,xs++[j],v7,by go_num,by omega,by rw[aA5,aBn];omega,HU7,HE7,HS7,DX,asC,asB,D7,D8,DOS,DB,by simp;omega⟩
     case measure=>simp[intOf];omega
    ·obtain rfl:l=8:=by omega
     obtain⟨y0,y1,y2,y3,y4,y5,y6,y7,hys⟩:=YO (show (xs.drop (8*k)).length=8 by rw[List.length_drop];omega);have lX:∀ l,xs.getD (8*k+l) 0=(xs.drop (8*k)).getD l 0:=λl=>by simp[List.getD,List.getElem?_drop]
     have HSN:Hid (Gi ns aa aX us xs (SS++[⟨(out:Nat),[(y0:Int),y1,y2,y3,y4,y5,y6,y7]⟩])):=hid (λi s hi=>by
      by_cases e:i<SS.length
      ·rw[aA9 e]at hi;exact HS.out i s hi
      ·rw[aBa (by omega)]at hi;have e2:i=k:=by
        have:=(aA1.1 hi).1;simp at this;omega
       subst e2;rw[mG,Nat.sub_self]at hi;simp at hi;refine⟨u0,tq.out,by omega,?_⟩;rw[<-hi,asM.out];congr 1;rw[show (λl=>((xs.getD (8*i+l) 0:Nat):Int))=λl=>(([y0,y1,y2,y3,y4,y5,y6,y7].getD l 0:Nat):Int) by funext l;rw[lX,hys]];rfl)
     have HN:=HN.out;rw[hys]at HN;have q0:=HN.c0;have q1:W3.cell? ⟨w3.heap.size,1,none⟩=some (.int .i64 (y0:Nat)):=HN.c 0 (by omega);have q2:W3.cell? ⟨w3.heap.size,2,none⟩=some (.int .i64 (y1:Nat)):=HN.c 1 (by omega);have q3:W3.cell? ⟨w3.heap.size,3,none⟩=some (.int .i64 (y2:Nat)):=HN.c 2 (by omega);have q4:W3.cell? ⟨w3.heap.size,4,none⟩=some (.int .i64 (y3:Nat)):=HN.c 3 (by omega);have q5:W3.cell? ⟨w3.heap.size,5,none⟩=some (.int .i64 (y4:Nat)):=HN.c 4 (by omega);have q6:W3.cell? ⟨w3.heap.size,6,none⟩=some (.int .i64 (y5:Nat)):=HN.c 5 (by omega);have q7:W3.cell? ⟨w3.heap.size,7,none⟩=some (.int .i64 (y6:Nat)):=HN.c 6 (by omega);have q8:W3.cell? ⟨w3.heap.size,8,none⟩=some (.int .i64 (y7:Nat)):=HN.c 7 (by omega);have hfw:=yL.out us xs HE.out;have RU:=(aA1.1 tq.out).1;clear HN lX hys;go_wp2_with (at_builtin;go_must (refine aBw _ rfl (.tmp 45) (.tmp 47) 65 rfl w.heap.size 119 i0 (.agg #[.int .i64 0,.int .i64 0,.int .i64 0,.int .i64 0,.int .i64 0,.int .i64 0,.int .i64 0,.int .i64 0,.int .i64 0]) 9 72 Tryz.underlying65 hi aR aP aN rfl (by decide) _ k (ik SS) rfl (iF.out.alloc _) ⟨W3.heap.size,0,none⟩ 1 1 [.int .i64 (out:Nat),.int .i64 (y0:Nat),.int .i64 (y1:Nat),.int .i64 (y2:Nat),.int .i64 (y3:Nat),.int .i64 (y4:Nat),.int .i64 (y5:Nat),.int .i64 (y6:Nat),.int .i64 (y7:Nat)] rfl rfl (abO W3 _ _) (by intro y hy;simp at hy;rcases hy with rfl | rfl | rfl | rfl | rfl | rfl | rfl | rfl | rfl <;> rfl) (by decide) (by unfold maxLen;omega) (by omega) (by simp;omega) (W3.heap.size+1) (by simp) ?_))
     intro gg cc w9 hown hgrow hat arZ;have DZ:=hid ((HX.out.below ((aAW W3.heap.size W3).alloc (aAU _) (.cells #[.int .i64 (out:Nat),.int .i64 (y0:Nat),.int .i64 (y1:Nat),.int .i64 (y2:Nat),.int .i64 (y3:Nat),.int .i64 (y4:Nat),.int .i64 (y5:Nat),.int .i64 (y6:Nat),.int .i64 (y7:Nat)] 119))).grown hgrow HNV.out (aC HX.out.own iF.out (by decide)));have PO:=hid ((HB.out.alloc (by omega) (.cells #[.int .i64 (out:Nat),.int .i64 (y0:Nat),.int .i64 (y1:Nat),.int .i64 (y2:Nat),.int .i64 (y3:Nat),.int .i64 (y4:Nat),.int .i64 (y5:Nat),.int .i64 (y6:Nat),.int .i64 (y7:Nat)] 119)).grown hgrow (by simp;omega) (λq h=>(iF.out.lt q h).1));have HO9:Hid (w9.ownsRow w.heap.size 119 9 (.slice (some ⟨gg,0,none⟩) (k+1) cc) (k+1) (ik (SS++[⟨(out:Nat),[(y0:Int),y1,y2,y3,y4,y5,y6,y7]⟩]))):=hid (by
      rw[xg];exact hown)
     have asS:Hid ((Value.slice (some ⟨gg,0,none⟩) (k+1) cc).ownBlock≠some (B+1)):=hid (by
      rcases hat with h | h
      ·have h2:=HNV.out;rw[h]at h2;exact h2
      ·subst h;simp[Value.ownBlock];omega)
     have hs9:W3.heap.size<w9.heap.size:=by
      have h4:=hgrow.size;simp at h4;omega
     clear hown hgrow hat q0 q1 q2 q3 q4 q5 q6 q7 q8;go_wp2_with fail;go_roundw
     case rel=>exact⟨k+1,us,xs,v,_,by go_num,by omega,by omega,by simp[mG],HE,HSN,DZ,HO9,asS,PO,by omega⟩
     case measure=>simp[intOf];omega
  ·obtain rfl:k=us.length:=by omega
   go_wp2_with fail;go_ret;exact⟨us,xs,SS,_,rfl,HE.out,zo,mG,HS.out,iF.out,HB.out⟩
theorem nG.aiZ{w:World}{T g2 n:Nat}{V:Nat->Value}{tl:Nat->List (Nat × Nat)}(h:nG w T g2 n V tl){b:Nat}(hb:b<g2)(o:Nat)(u:Value):nG (w.setCell ⟨b,o,none⟩ u) T g2 n V tl:=
 ⟨h.lt,by rw[aA0 _ ⟨b,o,none⟩ ⟨T,0,none⟩ _ (λq=>by have:=congrArg Addr.block q;have h2:=h.lt;simp at this;omega)];exact h.cell,ax h.out hb o u,λj hj=>ax (h.row j hj) (by have:=h.lt;omega) o u,h.sep⟩
def iJ(ns:List Nd)(aa aX:Nat->Bool)(us:List (List Nat)):Nat->Nat:=λi=>qx aa (dW ns aa aX (us.getD i []))
