import Derived.Test.YtjagijohfkffiabGreatALLM17
set_option maxHeartbeats 16000000
set_option maxRecDepth 100000
set_option linter.unusedSimpArgs false
namespace Go.Proofs.YtjagijohfkffiabGreat
open Go.RowKit
set_option linter.unusedVariables false
def dD(ns:List Nd)(aa aJ:Nat->Bool)(us:List (List Nat)):Nat->Nat:=λi=>rE aa (dR ns aa aJ (us.getD i []))
theorem akG{w:World}{B g cap:Nat}{ns:List Nd}{aa aJ:Nat->Bool}{us:List (List Nat)}{xs:List Nat}{SS:List St}(hS:Cm ns aa aJ us xs SS)(hl:SS.length=us.length)(ho:w.ownsRow B 119 9 (.slice (some ⟨g,0,none⟩) us.length cap) us.length (gu SS)):VI w g us.length (dD ns aa aJ us) (aZ xs):=by
 have c:=Y8 hS;have a:∀ i,i<us.length->bu SS i=⟨dD ns aa aJ us i,(List.range 8).map λl=>((aZ xs i l:Nat):Int)⟩:=λi b=>by
  have d:i<SS.length:=by omega
  obtain⟨u,f,k,h⟩:=hS i SS[i] (aB3 d);have:bu SS i=SS[i]:=by simp[bu,List.getD,aB3 d]
  rw[this,h];have e:us.getD i []=u:=by simp[List.getD,f]
  unfold dD aZ;rw[e]
 refine⟨(ho.lt _ rfl).2,λi b=>?_,λi m b j=>?_⟩
 ·have:=xJ c (show i<SS.length by omega) (show 0<9 by omega);rw[Nat.add_zero]at this;rw[ho.cellAt (i*9) (by omega),this,a i b];rfl
 ·have:=xJ c (show i<SS.length by omega) (show 1+m<9 by omega);rw[show i*9+1+m=i*9+(1+m) by omega,ho.cellAt (i*9+(1+m)) (by omega),this,a i b,Nat.add_comm 1 m];simp[iA,j]
theorem aj1{ns:List Nd}{aa aJ:Nat->Bool}{us:List (List Nat)}{xs:List Nat}(h:gU ns aa aJ us xs)(he:xs.length=8*us.length):∀ i l,i<us.length->l<8->aZ xs i l<us.length:=λi l hi hl=>by
 obtain⟨u0,u1,_,h2,_⟩:=h.ok (8*i+l) (by omega);exact(aB9.1 h2).1
theorem Tryz.xM:(Tryz.prog.info? 102).map (·.size)=some 3:=by kernel_rfl
def aeo(ns:List Nd)(aa aJ:Nat->Bool)(cs:List (Nat->Bool))(sf co lv:Bool):Prop:=
 ∃ us xs,gU ns aa aJ us xs/\xs.length=8*us.length/\EvP ns cs aJ (dD ns aa aJ us) (aZ xs) us.length 2 false (!sf)/\EvP ns cs aJ (dD ns aa aJ us) (aZ xs) us.length 1 true (!co)/\(lv=false↔∃ i,i<us.length/\dD ns aa aJ us i=2)
theorem ZI(P:Nat)(ns:List Nd)(aa aJ:Nat->Bool)(cs:List (Nat->Bool))(w:World)(h8:ns.length<=8)(Gw:∀ us xs,gU ns aa aJ us xs->us.length<=796594185)(ho:vZ w P ns aa aJ)(hcm:pK w P cs)(hcl:cs.length<=8) :
  Calls Tryz.prog 108 #[.pointer (some ⟨P,0,none⟩)] w λe w'=>∃ sf co lv:Bool,e=.returned (.agg #[.bool sf,.bool co,.bool lv])/\aeo ns aa aJ cs sf co lv/\Below w.heap.size w w':=by
 have q:=ho.lt;have D:=hid ho;have I:=hid hcm;have J:=hid Gw;clear ho hcm Gw;go_enter Tryz.func108,Tryz.ntmps108;go_wp2_with fail;have E:=hid ((aB4 w.heap.size w).alloc (aB2 _) (.cells #[.bool false,.bool false,.bool false] 102));refine(KZ P ns aa aJ _ h8 J.out (D.out.below E.out q)).mono ?_;unfold EC;rintro e l ⟨us,xs,SS,v,rfl,r,K,Y,L,a,d⟩;simp only[aB7]at a d;have j:0<us.length:=(aB9.1 r.first).1
 have XZ:=J.out us xs r;obtain⟨ao,cap,rfl⟩:=ak a;obtain⟨g,rfl,Z,nD,_⟩:=eZ a j;have F:=hid (akG L Y a);have M:=hid (aj1 r K);have N:=hid (And.intro r K);have O:l.cell? ⟨w.heap.size,0,none⟩=some (.bool false):=(d.cell (p:=⟨w.heap.size,0,none⟩) (by show w.heap.size<w.heap.size+1;omega)).trans (by simp);have Q:l.cell? ⟨w.heap.size,1,none⟩=some (.bool false):=(d.cell (p:=⟨w.heap.size,1,none⟩) (by show w.heap.size<w.heap.size+1;omega)).trans (by simp);have R:l.cell? ⟨w.heap.size,2,none⟩=some (.bool false):=(d.cell (p:=⟨w.heap.size,2,none⟩) (by show w.heap.size<w.heap.size+1;omega)).trans (by simp);have S:∀ o,l.frozen? ⟨w.heap.size,o,none⟩=false:=λo=>(d.frozen (p:=⟨w.heap.size,o,none⟩) (by show w.heap.size<w.heap.size+1;omega)).trans (by simp);have z:w.heap.size<l.heap.size:=by have:=d.size;simp at this;omega
 have A:=hid (E.out.trans (d.mono (by omega)));have s:=hid (And.intro O (And.intro Q (And.intro R S)));clear a d E r L O Q R S;generalize t:us.length=n at *;have B:=hid t;clear t;go_wp2_with fail;refine(Mt P g n cap 2 false ns aa aJ cs _ _ l h8 j (by omega) (D.out.below A.out q) (I.out.below A.out q) hcl F.out M.out).mono ?_;rintro e T ⟨b1,rfl,U,f⟩;have G:=hid U;have H:=hid (F.out.below f nD);have C:=hid (A.out.trans (f.mono (by omega)));have qP:=f.size;have u:=hid (And.intro ((f.cell (p:=⟨w.heap.size,0,none⟩) z).trans s.out.1) (And.intro ((f.cell (p:=⟨w.heap.size,1,none⟩) z).trans s.out.2.1) (And.intro ((f.cell (p:=⟨w.heap.size,2,none⟩) z).trans s.out.2.2.1) (λo=>(f.frozen (p:=⟨w.heap.size,o,none⟩) z).trans (s.out.2.2.2 o)))));clear U f F A s;go_wp2_with fail;refine(Mt P g n cap 1 true ns aa aJ cs _ _ T h8 j (by omega) (D.out.below C.out q) (I.out.below C.out q) hcl H.out M.out).mono ?_;rintro e V ⟨b2,rfl,W,h⟩;have sW:=hid W;have x:=hid (H.out.below h (by omega));have X:=hid (C.out.trans (h.mono (by omega)));have NZ:=h.size;have c:w.heap.size<T.heap.size:=by omega
 have k:=hid (And.intro ((h.cell (p:=⟨w.heap.size,0,none⟩) c).trans u.out.1) (And.intro ((h.cell (p:=⟨w.heap.size,1,none⟩) c).trans u.out.2.1) (And.intro ((h.cell (p:=⟨w.heap.size,2,none⟩) c).trans u.out.2.2.1) (λo=>(h.frozen (p:=⟨w.heap.size,o,none⟩) c).trans (u.out.2.2.2 o)))));clear W h H C u;go_wp2_with fail;refine(aaV g n cap 2 _ _ V (by omega) x.out).mono ?_;rintro e w4 ⟨b3,rfl,y,i⟩;have sV:=hid y;have dW:=hid (X.out.trans (i.mono (by omega)));have m:w.heap.size<V.heap.size:=by omega
 have d0:=(i.cell (p:=⟨w.heap.size,0,none⟩) m).trans k.out.1;have d1:=(i.cell (p:=⟨w.heap.size,1,none⟩) m).trans k.out.2.1;have d2:=(i.cell (p:=⟨w.heap.size,2,none⟩) m).trans k.out.2.2.1;have e0:=(i.frozen (p:=⟨w.heap.size,0,none⟩) m).trans (k.out.2.2.2 0);have e1:=(i.frozen (p:=⟨w.heap.size,1,none⟩) m).trans (k.out.2.2.2 1);have e2:=(i.frozen (p:=⟨w.heap.size,2,none⟩) m).trans (k.out.2.2.2 2);clear y i x X k;go_wp2_with fail;refine xx (cs:=[.bool !b1,.bool !b2,.bool !b3]) (b:=w.heap.size) Tryz.results108 ?_ ?_ ?_ Tryz.underlying102 rfl Tryz.xM ?_
 ·rfl
 ·rfl
 ·exact qE d0 d1 d2 _ _ _
 ·refine⟨!b1,!b2,!b3,rfl,⟨us,xs,N.out.1,by rw[B.out];exact N.out.2,by rw[B.out,Bool.not_not];exact G.out,by rw[B.out,Bool.not_not];exact sW.out,by rw[B.out,<-sV.out];simp⟩,?_⟩;exact((dW.out.setCell (p:=⟨w.heap.size,0,none⟩) (aB2 _) _).setCell (p:=⟨w.heap.size,1,none⟩) (aB2 _) _).setCell (p:=⟨w.heap.size,2,none⟩) (aB2 _) _
theorem JC{A B:List Nat}{x:Nat->Nat}(h:rD (A++B) x):rD A x:=λi hi=>by
 rw[h i (by rw[aCd];omega),Re hi]
theorem Sk{ns:List Nd}{A B:List Nat}{v u:Nat}(hab:∀ x∈A++B,x<8)(hv:jC ns A v)(hu:jC ns (A++B) u):(v=1->u=1)/\(v=2->u=2):=by
 have c:=Jk (λx e=>hab x (by simp[e])) hv;have d:=Jk hab hu;exact⟨λh=>d.1.2 λx a b=>c.1.1 h x a (JC b),λh=>d.2.2 λx a b=>c.2.1 h x a (JC b)⟩
def pre(x:Nat->Nat)(k:Nat):List Nat:=(List.range k).map x
theorem DT(x:Nat->Nat)(k:Nat):pre x (k+1)=pre x k++[x k]:=by simp[pre,aCT]
theorem abC{x:Nat->Nat}(h:fu x)(k:Nat):∀ y∈pre x k,y<8:=λy hy=>by
 obtain⟨i,_,rfl⟩:=aCU.1 hy;exact h i
def Nr(ns:List Nd)(vd:Nat)(hd:Bool):Prop:=∃ x,fu x/\(d9 (λi=>i+1) x ns (ns.length - 1) 0↔hd=true)/\∀ k,¬ jC ns (pre x k) vd
theorem agh{g h:Nat->Bool}(k:geq g h=true):geq h g=true:=jR.2 λj hj=>(jR.1 k j hj).symm
theorem Hf{g h i:Nat->Bool}(k:geq g h=true)(l:geq h i=true):geq g i=true:=jR.2 λj hj=>(jR.1 k j hj).trans (jR.1 l j hj)
theorem agi{ns:List Nd}(h8:ns.length<=8){aa g h:Nat->Bool}(k:geq g h=true)(l:Nat):geq (stepG ns aa g l) (stepG ns aa h l)=true:=jR.2 λj hj=>by
 unfold stepG;rw[jR.1 k _ (vR h8 l j)]
theorem agf{aa g h:Nat->Bool}(k:geq g h=true):rE aa g=rE aa h:=by
 have e:∀ i,geq g i=geq h i:=λi=>by
  rw[Bool.eq_iff_iff];exact⟨λa=>Hf (agh k) a,λa=>Hf k a⟩
 unfold rE;rw[e,e]
section
variable {ns:List Nd} {aa:Nat->Bool} {us:List (List Nat)} {xs:List Nat}
theorem uS(hg:Good ns)(hl:jf ns (aW ns ns.length) aa)(hE:gU ns aa (aL ns aa) us xs)(hx:xs.length=8*us.length){x:Nat->Nat}(hL:fu x){sp:Nat->Nat}(h0:sp 0=0)(hs:∀ t,sp (t+1)=aZ xs (sp t) (x t)) :
  ∀ t,sp t<us.length/\geq (dR ns aa (aL ns aa) (us.getD (sp t) [])) (dR ns aa (aL ns aa) (pre x t))=true
 | 0=>by
  have hp:=(aB9.1 hE.first).1
  rw[h0];refine⟨hp,?_⟩;have:us.getD 0 []=[]:=by simp[List.getD,hE.first]
  rw[this];exact jR.2 λ_ _=>rfl
 | t+1=>by
  obtain⟨i,b⟩:=uS hg hl hE hx hL h0 hs t;have j:=hL t;obtain⟨u0,e,c,a,d⟩:=hE.ok (8*sp t+x t) (by omega);rw[show (8*sp t+x t) / 8=sp t by omega]at c;rw[show (8*sp t+x t) % 8=x t by omega]at d;have f:aZ xs (sp t) (x t)=xs.getD (8*sp t+x t) 0:=rfl;rw[hs,f];refine⟨(aB9.1 a).1,?_⟩;have g:us.getD (xs.getD (8*sp t+x t) 0) []=e:=by simp only[List.getD]at a ⊢;rw[a];rfl
  have h:us.getD (sp t) []=u0:=by simp[List.getD,c]
  rw[h]at b;rw[g,DT,qH];exact Hf d (agi hg.le b _)
theorem nV(hg:Good ns)(hl:jf ns (aW ns ns.length) aa)(hE:gU ns aa (aL ns aa) us xs)(hx:xs.length=8*us.length){x:Nat->Nat}(hL:fu x){sp:Nat->Nat}(h0:sp 0=0)(hs:∀ t,sp (t+1)=aZ xs (sp t) (x t))(t:Nat) :
  jC ns (pre x t) (dD ns aa (aL ns aa) us (sp t)):=by
 unfold dD;rw[agf (uS hg hl hE hx hL h0 hs t).2];exact pM hg hl (abC hL t)
theorem Vg{n:Nat}{tl:Nat->List (Nat × Nat)}{out:Nat->Nat}{nx:Nat->Nat->Nat}{vd:Nat}(h8:ns.length<=8)(hw:CY out nx vd n 0 tl){y a:Nat}:Ew n ns tl y a↔a<n*256/\∃ i l,i<n/\l<8/\nx i l=a / 256/\out (a / 256)≠vd/\y=i*256+gF ns l (a % 256):=by
 unfold Ew;constructor
 ·rintro ⟨b,st,f,rfl⟩;obtain⟨⟨g,c⟩,d,e⟩:=(hw.mem _ _).1 f;exact⟨b,st.1,st.2,by omega,c,d,e,rfl⟩
 ·rintro ⟨b,i,l,g,c,d,e,rfl⟩;exact⟨b,(i,l),(hw.mem _ _).2 ⟨⟨by simp only;omega,c⟩,d,e⟩,rfl⟩
theorem Qw(hg:Good ns)(hl:jf ns (aW ns ns.length) aa)(hE:gU ns aa (aL ns aa) us xs)(hx:xs.length=8*us.length){vd:Nat}(hv:vd=1\/vd=2){hd b:Bool}(h:EvP ns (aW ns ns.length) (aL ns aa) (dD ns aa (aL ns aa) us) (aZ xs) us.length vd hd b):b=true↔Nr ns vd hd:=by
 have C:=hg.le;have R:=hg.pos;obtain⟨tl,T,hb⟩:=h;rw[hb];constructor
 ·rintro ⟨v,ayX,⟨q,o,hq,U⟩,I⟩;have V:∀ t,∃ l,l<8/\q (t+1) / 256=aZ xs (q t / 256) l/\dD ns aa (aL ns aa) us (q (t+1) / 256)≠vd/\q t % 256=gF ns l (q (t+1) % 256):=λt=>by
   obtain⟨_,i,l,d,f,J,D,n⟩:=(Vg C T).1 (hq t);have eD:=vR C l (q (t+1) % 256);refine⟨l,f,?_,D,?_⟩
   ·rw[<-J,n,show (i*256+gF ns l (q (t+1) % 256)) / 256=i by omega]
   ·omega
  let x:Nat->Nat:=λt=>Classical.choose (V t)
  have g:∀ t,x t<8/\q (t+1) / 256=aZ xs (q t / 256) (x t)/\dD ns aa (aL ns aa) us (q (t+1) / 256)≠vd/\q t % 256=gF ns (x t) (q (t+1) % 256):=λt=>Classical.choose_spec (V t);have j:fu x:=λt=>(g t).1;have p:q 0 % 256=v:=by rw[o];omega
  have K:wh ns v:=by
   refine⟨λt=>q t % 256,p,λt=>Ad.2 ⟨Nat.mod_lt _ (by omega),x t,(g t).1,(g t).2.2.2⟩,qM λc E t=>?_⟩;obtain⟨a,d,f⟩:=qN U c E t;refine⟨a,d,?_⟩;obtain⟨k,_,_,rfl⟩:=ma.1 E;unfold spread at f ⊢;rw[Nat.mod_mod];exact f
  have row:yf ns x (λt=>tb (q t % 256)):=by
   refine⟨λt=>?_,λk L m t=>?_⟩
   ·have:=kH hg (x t) (q (t+1) % 256);rw[<-(g t).2.2.2]at this;exact this
   ·obtain⟨d,f,J⟩:=nR hg.wf m;have r:au ns k=L:=by have:=l9 (ns:=ns) d;rw[m]at this;exact(Option.some.inj this).symm
    cases hww:mo L.op with
    | false=>exact⟨t,aB2 _,Gg hww⟩
    | true=>
     obtain⟨a,D,n⟩:=qN U _ (ma.2 ⟨k,d,by rw[r];exact hww,rfl⟩) t;refine⟨a,D,?_⟩;have w:=kH hg (x a) (q (a+1) % 256) k L m;rw[<-(g a).2.2.2]at w;rw[uH w hww];simp only[spread,kR,r]at n;exact n
  refine⟨x,j,?_,λk W=>?_⟩
  ·rw[<-Et hg.wf row _ (by omega)];show (q 0 % 256).testBit (ns.length - 1)=true↔_;rw[p];unfold aL at I;rw[(hl v).2 K,Bool.true_and]at I;rw[I]
  ·have F:=nV hg hl hE hx j (sp:=λt=>q t / 256) (by show q 0 / 256=0;rw[o];omega) (λt=>(g t).2.1);cases k with
   | zero=>
    have d:=F 1;have f:=Sk (A:=pre x 0) (B:=[x 0]) (v:=vd) (λy hy=>abC j 1 y (by rw[DT];exact hy)) W (u:=dD ns aa (aL ns aa) us (q 1 / 256)) (by rw[<-DT];exact d);rcases hv with rfl | rfl
    ·exact(g 0).2.2.1 (f.1 rfl)
    ·exact(g 0).2.2.1 (f.2 rfl)
   | succ k=>exact(g k).2.2.1 (lZ (F (k+1)) W)
 ·rintro ⟨x,j,Ec,M⟩;obtain⟨S,hS,G⟩:=pq hg.wf x
  let sp:Nat->Nat:=λt=>Nat.rec 0 (λt s=>aZ xs s (x t)) t
  have N:sp 0=0:=rfl;have ss:∀ t,sp (t+1)=aZ xs (sp t) (x t):=λt=>rfl;have z:=uS hg hl hE hx j N ss;have F:=nV hg hl hE hx j N ss;have O:∀ t,dM (S t) ns.length<256:=λt=>uG _ _ C;have P:chain ns [] (S 0):=⟨x,S,j,G,dU.refl _ _⟩;have K:=xn hg P;refine⟨dM (S 0) ns.length,O 0,⟨λt=>sp t*256+dM (S t) ns.length,by simp[N],λt=>?_,qM λc E t=>?_⟩,?_⟩
  ·have v1:=O (t+1);have X:(sp (t+1)*256+dM (S (t+1)) ns.length) / 256=sp (t+1):=by omega
   have Q:(sp (t+1)*256+dM (S (t+1)) ns.length) % 256=dM (S (t+1)) ns.length:=by omega
   have hlt:=(z (t+1)).1;refine(Vg C T).2 ⟨by show sp (t+1)*256+dM (S (t+1)) ns.length<us.length*256;omega,sp t,x t,(z t).1,j t,by rw[X,ss],?_,?_⟩
   ·rw[X];intro e;have:=F (t+1);rw[e]at this;exact M _ this
   ·rw[Q,Ah hg (G.step t) (jA hg _)]
  ·obtain⟨k,d,f,rfl⟩:=ma.1 E;have m:=l9 (ns:=ns) d;obtain⟨_,J,D⟩:=nR hg.wf m;obtain⟨a,n,Y⟩:=G.kept k _ m t;refine⟨a,n,?_⟩;rw[uH (G.step a k _ m) f]at Y;have H:=jA hg (S a) k d;have Md:iV (au ns k)<ns.length:=by unfold iV;split <;> omega
   have Z:=jA hg (S a) _ Md;have v1:=O a;have Q:(sp a*256+dM (S a) ns.length) % 256=dM (S a) ns.length:=by omega
   simp only[tb]at H Z;simp only[spread,kR,Q,H,Z];exact Y
  ·unfold aL;rw[(hl _).2 K,Bool.true_and];have H:(dM (S 0) ns.length).testBit (ns.length - 1)=S 0 (ns.length - 1):=jA hg (S 0) (ns.length - 1) (by omega);rw[H,Bool.eq_iff_iff,hS,Ec]
end
structure Kind (ns:List Nd) (sf co lv:Bool):Prop where
 safe:sf=true↔¬ Nr ns 2 false
 adl:co=true↔¬ Nr ns 1 true
 live:lv=true↔∀ u,(∀ x∈u,x<8)->¬ jC ns u 2
theorem afI{ns:List Nd}{a b c a' b' c':Bool}(h:Kind ns a b c)(k:Kind ns a' b' c'):a=a'/\b=b'/\c=c':=
 ⟨by rw[Bool.eq_iff_iff,h.safe,k.safe],by rw[Bool.eq_iff_iff,h.adl,k.adl],by rw[Bool.eq_iff_iff,h.live,k.live]⟩
theorem OY{ns:List Nd}(hg:Good ns){aa:Nat->Bool}{us:List (List Nat)}{xs:List Nat}(hl:jf ns (aW ns ns.length) aa)(hE:gU ns aa (aL ns aa) us xs)(hx:xs.length=8*us.length){u:List Nat}(hu:∀ x∈u,x<8):∃ i,i<us.length/\jC ns u (dD ns aa (aL ns aa) us i):=by
 let x:Nat->Nat:=λi=>u.getD i 0
 have a:fu x:=λt=>by
  show u.getD t 0<8;rw[List.getD];cases e:u[t]? with
  | none=>simp
  | some y=>exact hu y (aCJ e)
 let sp:Nat->Nat:=λt=>Nat.rec 0 (λt s=>aZ xs s (x t)) t
 have e:pre x u.length=u:=by
  unfold pre;apply List.ext_getElem
  ·simp
  ·intro i c b;simp[x,List.getD,aB3 b]
 refine⟨sp u.length,(uS hg hl hE hx a (sp:=sp) rfl (λt=>rfl) u.length).1,?_⟩;have:=nV hg hl hE hx a (sp:=sp) rfl (λt=>rfl) u.length;rw[e]at this;exact this
theorem aaq{ns:List Nd}(hg:Good ns){aa:Nat->Bool}(hl:jf ns (aW ns ns.length) aa){sf co lv:Bool}(h:aeo ns aa (aL ns aa) (aW ns ns.length) sf co lv):Kind ns sf co lv:=by
 obtain⟨g,xs,a,d,l,m,j⟩:=h;have n:=Qw hg hl a d (aCb rfl) l;have o:=Qw hg hl a d (aCa rfl) m;refine⟨by rw[<-n];cases sf <;> simp,by rw[<-o];cases co <;> simp,?_⟩
 constructor
 ·intro p u q r;obtain⟨i,f,c⟩:=OY hg hl a d q;have:=j.2 ⟨i,f,lZ c r⟩;rw[p]at this;cases this
 ·intro b;cases e:lv with
  | true=>rfl
  | false=>
   obtain⟨i,f,c⟩:=j.1 e;exfalso;have k:g.getD i []∈g:=by simp[List.getD,aB3 f]
   refine b _ (a.zQ _ k) ?_;have:=pM hg hl (a.zQ _ k);unfold dD at c;rw[c]at this;exact this
def oJ(s:ByteArray)(w:World)(e:Ending)(w':World):Prop:=
 ∃ sf co lv:Bool,e=.returned (.tuple #[.agg #[.bool sf,.bool co,.bool lv],.int .i64 (af s).1])/\((af s).1=0->Kind (af s).2 sf co lv)/\((af s).1≠0->sf=false/\co=false/\lv=false)/\Below w.heap.size w w'
theorem dS{fn:Func}{p q b:Nat}{ty:TypeId}{d:TypeDesc}{cs:List Value}{v:Value}{a:Act}{w:World}{R:Ending->World->Prop}(h:fn.results=#[.cell p ty,.tmp q])(hd:a.defers=[])(hp:a.tmps.getD p undef=.pointer (some ⟨b,0,none⟩))(hq:a.tmps.getD q undef=v)
  (hg:w.rangeAt b 0 cs) (hu:Tryz.prog.underlying ty=some d) (hr:d.isRow=true) (hs:(Tryz.prog.info? ty).map (·.size)=some cs.length) (hR:R (.returned (.tuple #[.agg cs.toArray,v])) w):bodyPost Tryz.prog fn R .ret a w:=by
 refine bodyPost_ret (v:=.tuple #[.agg cs.toArray,v]) ?_ hd hR;rw[results_cell_tmp h,hp,hq];simp only[asAddr,Sem.run_pure,Result.andThen_ok];rw[run_loadVar_mid w b 0 _ cs d hg hu hr hs];rfl
section
variable (s:ByteArray) (w:World)
theorem agB(hm:s.size<=maxLen)(h:(af s).1≠0):Calls Tryz.prog 59 #[.string s] w (oJ s w):=by
 have C:=λW=>kU s W hm;unfold lQ at C;unfold oJ;generalize af s=p at *;have k:((p.1:Int) !=0)=true:=by rw[bne_iff_ne];omega
 go_enter Tryz.func59,Tryz.ntmps59;go_wp2_with fail;refine(C _).mono ?_;rintro e c ⟨m,cap,rfl,_,a⟩;have d:w.heap.size<c.heap.size:=by have:=a.size;simp at this;omega
 simp only[aB7]at a;have f:c.cell? ⟨w.heap.size,0,none⟩=some (.bool false):=(a.cell (p:=⟨w.heap.size,0,none⟩) (by show w.heap.size<w.heap.size+1;omega)).trans (by simp);have g:c.cell? ⟨w.heap.size,1,none⟩=some (.bool false):=(a.cell (p:=⟨w.heap.size,1,none⟩) (by show w.heap.size<w.heap.size+1;omega)).trans (by simp);have i:c.cell? ⟨w.heap.size,2,none⟩=some (.bool false):=(a.cell (p:=⟨w.heap.size,2,none⟩) (by show w.heap.size<w.heap.size+1;omega)).trans (by simp);have n:c.frozen? ⟨w.heap.size,0,none⟩=false:=(a.frozen (p:=⟨w.heap.size,0,none⟩) (by show w.heap.size<w.heap.size+1;omega)).trans (by simp);have o:c.frozen? ⟨w.heap.size,1,none⟩=false:=(a.frozen (p:=⟨w.heap.size,1,none⟩) (by show w.heap.size<w.heap.size+1;omega)).trans (by simp);have q:c.frozen? ⟨w.heap.size,2,none⟩=false:=(a.frozen (p:=⟨w.heap.size,2,none⟩) (by show w.heap.size<w.heap.size+1;omega)).trans (by simp);have j:=hid (((aB4 w.heap.size w).alloc (aB2 _) (.cells #[.bool false,.bool false,.bool false] 102)).trans (a.mono (by omega)));clear C a;go_wp2_with fail;refine dS (cs:=[.bool false,.bool false,.bool false]) (v:=.int .i64 (p.1:Nat)) (b:=w.heap.size) Tryz.results59 ?_ ?_ ?_ ?_ Tryz.underlying102 rfl Tryz.xM ?_
 ·rfl
 ·rfl
 ·rfl
 ·exact qE f g i _ _ _
 ·exact⟨false,false,false,rfl,λl=>absurd l h,λ_=>⟨rfl,rfl,rfl⟩,((j.out.setCell (p:=⟨w.heap.size,0,none⟩) (aB2 _) _).setCell (p:=⟨w.heap.size,1,none⟩) (aB2 _) _).setCell (p:=⟨w.heap.size,2,none⟩) (aB2 _) _⟩
theorem adn(hm:s.size<=maxLen)(h:(af s).1=0):Calls Tryz.prog 59 #[.string s] w (oJ s w):=by
 have C:=λW=>kU s W hm;unfold lQ at C;have G:=hid (iM h);have SG:=hid (AR h);unfold oJ;generalize af s=p at *;obtain⟨p1,ns⟩:=p;dsimp only at *;subst h;have l:=G.out.pos;obtain⟨r,d⟩:∃ r,ns.length=r+1:=⟨ns.length - 1,by omega⟩;have I:=hid d;rw[d]at C;clear d l;have J:=hid Tryz.zN;go_enter Tryz.func59,Tryz.ntmps59;go_wp2_with fail;refine(C _).mono ?_;rintro e w1 ⟨ao,cap,rfl,own,t⟩;simp only[aB7]at t;obtain⟨gn,rfl,_,wz,_⟩:=sG own (by omega);have K:=hid (Lx own I.out);have u:=hid t;clear C own t;go_wp2_with fail;refine(DY gn r cap ns _ K.out G.out I.out).mono ?_;rintro e a ⟨sl,o,rfl,L,M,Js,x⟩;have N:=hid L;have hs1:w.heap.size<w1.heap.size:=by have:=u.out.size;simp at this;omega
 have O:=hid (u.out.trans (x.mono (by omega)));have qQ:w.heap.size+1<=a.heap.size:=by have:=x.size;omega
 have P:=hid (M.below ((aB4 a.heap.size a).alloc (aB2 _) (.cells Tryz.zeroCells63 63)));clear L x M K u;have Q:(a.alloc (.cells Tryz.zeroCells63 63)).there a.heap.size 0 2561:=by
  have:=mW a (dL (λ_=>0) (.slice none 0 0) (λ_=>false) (λ_=>false)) 2561 63;rw[<-J.out]at this;exact this.there 0 2561 (by omega)
 have R:=hid Q;clear Q;go_wp2_with (refine eP rfl 63 (.tmp 6) (.tmp 17) rfl a.heap.size 2561 (dL (oo ns) sl o (aL ns o)) rfl rfl R.out Tryz.um (wN _ _ _ Js) ?_);intro y g;have S:=hid (IW g.at_);have T:Below a.heap.size a y:=g.bD _ _ (aB2 _) ((aB4 _ _).alloc (aB2 _) _);have m:pK y a.heap.size (aW ns ns.length):=by
  obtain⟨z,A,rfl,h2⟩:=P.out;refine⟨z,A,FZ g.at_,λq=>?_⟩;obtain⟨B,h3,h4,D⟩:=h2 q;have E:B≠a.heap.size:=λe=>by
   have c1:=(D 0 _ (aB3 q)).c 0 (by omega);rw[e,Nat.zero_mul]at c1;have c2:=mW a (dL (λ_=>0) (.slice none 0 0) (λ_=>false) (λ_=>false)) 2561 63;rw[<-J.out]at c2;have U:=c2.c 0 (by omega);rw[aCw]at c1;rw[c1]at U;simp[dL]at U
  refine⟨B,h3,by rw[g.size];exact h4,λk c V=>⟨λj F=>?_,λj F=>?_⟩⟩
  ·rw[g.cell ⟨B,k*256+j,none⟩ E];exact(D k c V).c j F
  ·rw[g.fz];exact(D k c V).f j F
 have X:=hid m;have H:=hid (O.out.trans (T.mono qQ));have hcl:=sO ns ns.length;have h8:=G.out.le;clear g R O m T P;go_wp2_with fail;refine(ZI a.heap.size ns o (aL ns o) (aW ns ns.length) y h8 (λus xs hE=>Ac G.out SG.out N.out hE) S.out X.out (by omega)).mono ?_;rintro e i ⟨Y,Z,lv,rfl,n,bi⟩;have HK:=hid (aaq G.out N.out n);have Bd:=H.out.size;simp only[aB7]at Bd;have bb:=H.out.trans (bi.mono (by omega));have d0:i.cell? ⟨w.heap.size,0,none⟩=some (.bool false):=(bb.cell (p:=⟨w.heap.size,0,none⟩) (by show w.heap.size<w.heap.size+1;omega)).trans (by simp);have d1:i.cell? ⟨w.heap.size,1,none⟩=some (.bool false):=(bb.cell (p:=⟨w.heap.size,1,none⟩) (by show w.heap.size<w.heap.size+1;omega)).trans (by simp);have d2:i.cell? ⟨w.heap.size,2,none⟩=some (.bool false):=(bb.cell (p:=⟨w.heap.size,2,none⟩) (by show w.heap.size<w.heap.size+1;omega)).trans (by simp);have e0:i.frozen? ⟨w.heap.size,0,none⟩=false:=(bb.frozen (p:=⟨w.heap.size,0,none⟩) (by show w.heap.size<w.heap.size+1;omega)).trans (by simp);have e1:i.frozen? ⟨w.heap.size,1,none⟩=false:=(bb.frozen (p:=⟨w.heap.size,1,none⟩) (by show w.heap.size<w.heap.size+1;omega)).trans (by simp);have e2:i.frozen? ⟨w.heap.size,2,none⟩=false:=(bb.frozen (p:=⟨w.heap.size,2,none⟩) (by show w.heap.size<w.heap.size+1;omega)).trans (by simp);have fH:=hid (((aB4 w.heap.size w).alloc (aB2 _) (.cells #[.bool false,.bool false,.bool false] 102)).trans (bb.mono (by omega)));clear n bi bb H S X;go_wp2_with fail;refine dS (cs:=[.bool Y,.bool Z,.bool lv]) (v:=.int .i64 (0:Nat)) (b:=w.heap.size) Tryz.results59 ?_ ?_ ?_ ?_ Tryz.underlying102 rfl Tryz.xM ?_
 ·rfl
 ·rfl
 ·rfl
 ·exact qE d0 d1 d2 _ _ _
 ·exact⟨Y,Z,lv,rfl,λ_=>HK.out,λq=>absurd rfl q,((fH.out.setCell (p:=⟨w.heap.size,0,none⟩) (aB2 _) _).setCell (p:=⟨w.heap.size,1,none⟩) (aB2 _) _).setCell (p:=⟨w.heap.size,2,none⟩) (aB2 _) _⟩
theorem ado(hm:s.size<=maxLen):Calls Tryz.prog 59 #[.string s] w (oJ s w):=by
 by_cases h:(af s).1=0
 ·exact adn s w hm h
 ·exact agB s w hm h
end
theorem WR{n:Nat}{nx:Nat->Nat->Nat}(h:jQ n nx){i a:Nat}(hi:i<n)(ha:a<8):nx i a<n:=by
 have b:=tQ nx (show 8*i+a+1<=8*n by omega);simp only[met]at b;rw[h.2,show (8*i+a) / 8=i by omega,show (8*i+a) % 8=a by omega]at b;omega
theorem Ga{n:Nat}{nx:Nat->Nat->Nat}(h:jQ n nx):0<n:=by
 have:=ajF nx (8*n);rw[h.2]at this;exact this
theorem abl{n:Nat}{nx:Nat->Nat->Nat}(hc:∀ i a,i<n->a<8->nx i a<n):∀ (w:List Nat) (i:Nat),i<n->pJ w->lS nx i w<n
 | [],i,hi,_=>hi
 | a::w,i,hi,hw=>abl hc w (nx i a) (hc i a hi (hw a (List.mem_cons_self ..))) (λx hx=>hw x (List.mem_cons_of_mem _ hx))
structure EF (ns:List Nd) (n:Nat) (out:Nat->Nat) (nx:Nat->Nat->Nat):Prop where
 num:jQ n nx
 apart:Apart n out nx
 tells:∀ w,pJ w->jC ns w (out (lS nx 0 w))
theorem Tv{ns:List Nd}{n n':Nat}{out out':Nat->Nat}{nx nx':Nat->Nat->Nat}(h:EF ns n out nx)(k:EF ns n' out' nx'):n=n'/\(∀ i,i<n->out i=out' i)/\∀ i a,i<n->a<8->nx i a=nx' i a:=
 Sr h.num k.num h.apart k.apart λw hw=>lZ (h.tells w hw) (k.tells w hw)
def Big(ns:List Nd):Prop:=∀ n out nx,EF ns n out nx->8<n
theorem agL{ns:List Nd}{n:Nat}{out:Nat->Nat}{nx:Nat->Nat->Nat}(h:EF ns n out nx)(hn:8<n):Big ns:=λn' out' nx' k=>by
 have:=(Tv h k).1;omega
section
variable {ns:List Nd} {aa:Nat->Bool} {us:List (List Nat)} {xs:List Nat}
theorem zn(hE:gU ns aa (aL ns aa) us xs)(hx:xs.length=8*us.length):∀ i a,i<us.length->a<8->aZ xs i a<us.length:=λi a hi ha=>by
 obtain⟨_,u1,_,h1,_⟩:=hE.ok (8*i+a) (by omega);exact(aB9.1 h1).1
theorem Ai(hg:Good ns)(hl:jf ns (aW ns ns.length) aa)(hE:gU ns aa (aL ns aa) us xs)(hx:xs.length=8*us.length){w:List Nat}(hw:pJ w):jC ns w (dD ns aa (aL ns aa) us (lS (aZ xs) 0 w)):=by
 let x:Nat->Nat:=λi=>w.getD i 0
 have b:fu x:=λt=>by
  show w.getD t 0<8;rw[List.getD];cases e:w[t]? with
  | none=>simp
  | some y=>exact hw y (aCJ e)
 let sp:Nat->Nat:=λt=>Nat.rec 0 (λt s=>aZ xs s (x t)) t
 have e:pre x w.length=w:=by
  unfold pre;apply List.ext_getElem
  ·simp
  ·intro i d c;simp[x,List.getD,aB3 c]
 have a:∀ t,sp t=lS (aZ xs) 0 (pre x t):=λt=>by
  induction t with
  | zero=>rfl
  | succ t ih=>
   rw[DT,DD,<-ih];rfl
 have:=nV hg hl hE hx b (sp:=sp) rfl (λt=>rfl) w.length;rw[a,e]at this;exact this
theorem ZW(hg:Good ns)(hl:jf ns (aW ns ns.length) aa)(hE:gU ns aa (aL ns aa) us xs)(hx:xs.length=8*us.length){kd out':Nat->Nat}{nx':Nat->Nat->Nat}(hf:Fo kd us.length)
  (hh:QN us.length (dD ns aa (aL ns aa) us) (aZ xs) kd out' nx') (hk:∀ i j,i<us.length->j<us.length->jr (dD ns aa (aL ns aa) us) (aZ xs) (dD ns aa (aL ns aa) us) (aZ xs) i j->kd i=kd j):EF ns (bH kd us.length) out' nx':=by
 have a:0<us.length:=(aB9.1 hE.first).1
 have b:=zn hE hx;have e:kd 0=0:=by
  have:=hf 0 a;simp only[bH]at this;omega
 refine⟨Rc a (Fg hE hx) hh b hf,acw hh b hf hk,λw c=>?_⟩;have d:=Kl hh b a w c;rw[e]at d;rw[<-d];exact Ai hg hl hE hx c
theorem ac9(hE:gU ns aa (aL ns aa) us xs)(hx:xs.length=8*us.length):∀ i,i<us.length->∃ w,pJ w/\lS (aZ xs) 0 w=i:=by
 have d:=Fg hE hx;have b:∀ p,p<=8*us.length->∀ i,i<met (aZ xs) p->∃ w,pJ w/\lS (aZ xs) 0 w=i:=by
  intro p
  induction p with
  | zero=>
   intro _ i a;simp only[met]at a;exact⟨[],λx hx=>by simp at hx,by show 0=i;omega⟩
  | succ p ih=>
   intro h i a;by_cases c:i<met (aZ xs) p
   ·exact ih (by omega) i c
   ·simp only[met]at a;obtain⟨e,j⟩:=d.1 p (by omega);obtain⟨w,f,g⟩:=ih (by omega) _ e;refine⟨w++[p % 8],λx hx=>?_,?_⟩
    ·rcases aCG.1 hx with hx | hx
     ·exact f x hx
     ·simp at hx;omega
    ·rw[DD,g];show aZ xs (p / 8) (p % 8)=i;omega
 intro i a;exact b (8*us.length) (aB2 _) i (by rw[d.2];exact a)
theorem acb(hg:Good ns)(hl:jf ns (aW ns ns.length) aa)(hE:gU ns aa (aL ns aa) us xs)(hx:xs.length=8*us.length){kd:Nat->Nat}(hf:Fo kd us.length)
  (hk:∀ i j,i<us.length->j<us.length->jr (dD ns aa (aL ns aa) us) (aZ xs) (dD ns aa (aL ns aa) us) (aZ xs) i j->kd i=kd j) (h8:8<bH kd us.length):Big ns:=by
 intro n f nx l;have T:=zn hE hx;have B:0<us.length:=(aB9.1 hE.first).1
 have G:=Ga l.num;have H:jr (dD ns aa (aL ns aa) us) (aZ xs) f nx 0 0:=λw C=>lZ (Ai hg hl hE hx C) (l.tells w C);have D:∀ c,∃ s r,c<bH kd us.length->s<n/\r<us.length/\kd r=c/\jr (dD ns aa (aL ns aa) us) (aZ xs) f nx r s:=λc=>by
  by_cases k:c<bH kd us.length
  ·obtain⟨r,g,m,_⟩:=Lj hf k;obtain⟨w,E,I⟩:=ac9 hE hx r g;refine⟨lS nx 0 w,r,λ_=>⟨abl (λi a J o=>WR l.num J o) w 0 G E,g,m,λv K=>?_⟩⟩;have:=H (w++v) (λx hx=>by
    rcases aCG.1 hx with hx | hx
    ·exact E x hx
    ·exact K x hx)
   rw[DD,DD,I]at this;exact this
  ·exact⟨0,0,λh=>absurd h k⟩
 let s:Nat->Nat:=λc=>Classical.choose (D c)
 have p:∀ c,∃ r,c<bH kd us.length->s c<n/\r<us.length/\kd r=c/\jr (dD ns aa (aL ns aa) us) (aZ xs) f nx r (s c):=λc=>Classical.choose_spec (D c);have t:∀ c d,c<bH kd us.length->d<bH kd us.length->s c=s d->c=d:=λc d g m e=>by
  obtain⟨r,u⟩:=p c;obtain⟨q,L⟩:=p d;obtain⟨_,M,N,F⟩:=u g;obtain⟨_,O,P,Q⟩:=L m;rw[e]at F;rw[<-N,<-P];exact hk r q M O (rG F (ut Q))
 have z:((List.range (bH kd us.length)).map s).Nodup:=by
  rw[List.nodup_iff_pairwise_ne,List.pairwise_map];refine List.Pairwise.imp_of_mem ?_ (List.nodup_iff_pairwise_ne.1 List.nodup_range);intro a b o R A e;exact A (t a b (by simpa using o) (by simpa using R) e)
 have:=DV _ _ z (λy S=>by
  obtain⟨c,g,rfl⟩:=aCU.1 S;obtain⟨r,u⟩:=p c;exact(u (by simpa using g)).1)
 simp only[aCO,List.length_range]at this;omega
end
/-! ### The reference's way: through what is met -/
def uI(ms:List Nat)(i:Nat):Nat:=ms.getD i 0
section
variable (out:Nat->Nat) (nx:Nat->Nat->Nat)
structure Fu (K:Nat) (ms xs:List Nat):Prop where
 first:ms[0]?=some 0
 lt:∀ m∈ms,m<K
 Hq:ms.Pairwise λa b=>¬ jr out nx out nx a b
 ok:∀ p,p<xs.length->∃ m0 m1,ms[p / 8]?=some m0/\ms[xs.getD p 0]?=some m1/\jr out nx out nx (nx m0 (p % 8)) m1
 num:ms.length=met (aZ xs) xs.length
 Kb:∀ p,p<xs.length->p / 8<met (aZ xs) p/\xs.getD p 0<=met (aZ xs) p
end
section
variable {out:Nat->Nat} {nx:Nat->Nat->Nat} {K:Nat} {ms xs:List Nat}
theorem xC(i:Nat):jr out nx out nx i i:=λw _=>rfl
theorem aaL(hK:0<K):Fu out nx K [0] []:=⟨rfl,λm hm=>by simp at hm;omega,by simp,λp hp=>by simp at hp,rfl,λp hp=>by simp at hp⟩
theorem aiJ(h:Fu out nx K ms xs){m0 m1 j:Nat}(h0:ms[xs.length / 8]?=some m0)(h1:ms[j]?=some m1)(hq:jr out nx out nx (nx m0 (xs.length % 8)) m1):Fu out nx K ms (xs++[j]):=by
 have c:=(aB9.1 h1).1;have b:=(aB9.1 h0).1;have d:=h.num;refine⟨h.first,h.lt,h.Hq,λp a=>?_,?_,λp a=>?_⟩
 ·rw[aCd,aCv]at a;by_cases e:p=xs.length
  ·subst e;rw[dV];exact⟨m0,m1,h0,h1,hq⟩
  ·rw[fF (by omega)];exact h.ok p (by omega)
 ·rw[aCd,aCv,met,o7 _ (aB2 _),xB,dV,<-h.num];omega
 ·rw[aCd,aCv]at a;rw[o7 p (by omega)];by_cases e:p=xs.length
  ·subst e;rw[dV,<-h.num];exact⟨b,by omega⟩
  ·rw[fF (by omega)];exact h.Kb p (by omega)
theorem aiK(h:Fu out nx K ms xs){m0:Nat}(h0:ms[xs.length / 8]?=some m0)(hlt:nx m0 (xs.length % 8)<K)(hall:∀ m∈ms,¬ jr out nx out nx (nx m0 (xs.length % 8)) m):Fu out nx K (ms++[nx m0 (xs.length % 8)]) (xs++[ms.length]):=by
 have k:=(aB9.1 h0).1;have s:=h.num;have c:∀ {i m:Nat},ms[i]?=some m->(ms++[nx m0 (xs.length % 8)])[i]?=some m:=λ{i u} g=>by
  rw[aCh (aB9.1 g).1];exact g
 refine⟨c h.first,λm d=>?_,?_,λp f=>?_,?_,λp f=>?_⟩
 ·rcases aCG.1 d with d | d
  ·exact h.lt m d
  ·simp at d;omega
 ·rw[List.pairwise_append];refine⟨h.Hq,by simp,λa l b j=>?_⟩;simp at j;subst j;exact λn=>hall a l (ut n)
 ·rw[aCd,aCv]at f;by_cases e:p=xs.length
  ·subst e;rw[dV];exact⟨m0,nx m0 (xs.length % 8),c h0,by simp,xC _⟩
  ·rw[fF (by omega)];obtain⟨a,b,o,q,r⟩:=h.ok p (by omega);exact⟨a,b,c o,c q,r⟩
 ·rw[aCd,aCv,aCd,aCv,met,o7 _ (aB2 _),xB,dV,<-h.num];omega
 ·rw[aCd,aCv]at f;rw[o7 p (by omega)];by_cases e:p=xs.length
  ·subst e;rw[dV,<-h.num];exact⟨k,by omega⟩
  ·rw[fF (by omega)];exact h.Kb p (by omega)
theorem Nt(h:Fu out nx K ms xs):ms.length<=K:=DV _ _ (by
 rw[List.nodup_iff_pairwise_ne];exact h.Hq.imp λhab e=>hab (by subst e;exact xC _)) h.lt
theorem RJ(h:Fu out nx K ms xs)(he:xs.length=8*ms.length):jQ ms.length (aZ xs):=by
 refine⟨λp a=>?_,?_⟩
 ·rw[xB];exact h.Kb p (by omega)
 ·rw[<-he,<-h.num]
theorem Dp(h:Fu out nx K ms xs)(he:xs.length=8*ms.length):∀ (w:List Nat) (m i:Nat),i<ms.length->pJ w->jr out nx out nx m (uI ms i)->out (lS nx m w)=out (uI ms (lS (aZ xs) i w))
 | [],m,i,hi,_,hk=>hk [] (λx hx=>by simp at hx)
 | a::w,m,i,hi,hw,hk=>by
  have ha:=hw a (List.mem_cons_self ..);obtain⟨m0,m1,h1,h2,h3⟩:=h.ok (8*i+a) (by omega);rw[show (8*i+a) / 8=i by omega]at h1;rw[show (8*i+a) % 8=a by omega]at h3;have e0:uI ms i=m0:=by simp[uI,List.getD,h1]
  have b:uI ms (aZ xs i a)=m1:=by show ms.getD (xs.getD (8*i+a) 0) 0=m1;simp only[List.getD]at h2 ⊢;rw[h2];rfl
  rw[e0]at hk;simp only[lS];exact Dp h he w (nx m a) (aZ xs i a) (aB9.1 h2).1 (λx hx=>hw x (List.mem_cons_of_mem _ hx)) (by rw[b];exact rG (AX hk ha) h3)
theorem aaM(h:Fu out nx K ms xs)(he:xs.length=8*ms.length):Apart ms.length (λi=>out (uI ms i)) (aZ xs):=by
 intro i j a b g;have d:jr out nx out nx (uI ms i) (uI ms j):=λw e=>by
  rw[Dp h he w _ i a e (xC _),Dp h he w _ j b e (xC _)];exact g w e
 have f:=List.pairwise_iff_getElem.1 h.Hq;have k:uI ms i=ms[i]:=by simp[uI,List.getD,aB3 a]
 have l:uI ms j=ms[j]:=by simp[uI,List.getD,aB3 b]
 rw[k,l]at d;rcases Nat.lt_trichotomy i j with c | c | c
 ·exact absurd d (f i j a b c)
 ·exact c
 ·exact absurd (ut d) (f j i b a c)
theorem aer{ns:List Nd}{aa:Nat->Bool}{us:List (List Nat)}{ys:List Nat}(hg:Good ns)(hl:jf ns (aW ns ns.length) aa)(hE:gU ns aa (aL ns aa) us ys)(hy:ys.length=8*us.length)
  (h:Fu (dD ns aa (aL ns aa) us) (aZ ys) us.length ms xs) (he:xs.length=8*ms.length):EF ns ms.length (λi=>dD ns aa (aL ns aa) us (uI ms i)) (aZ xs):=by
 refine⟨RJ h he,aaM h he,λw a=>?_⟩;have b:uI ms 0=0:=by simp[uI,List.getD,h.first]
 have:=Dp h he w 0 0 (aB9.1 h.first).1 a (by rw[b];exact xC _)
 show jC ns w (dD ns aa (aL ns aa) us (uI ms (lS (aZ xs) 0 w)));rw[<-this];exact Ai hg hl hE hy a
end
def Dz(f h:Nat->Bool)(N:Nat):Bool:=(List.range N).all λi=>f i==h i
theorem Az{f h:Nat->Bool}{N:Nat}:Dz f h N=true↔∀ i,i<N->f i=h i:=by simp[Dz,List.all_eq_true]
theorem ae6{f h:Nat->Bool}{N i:Nat}(hi:i<N)(hne:f i≠h i):Dz f h N=false:=by
 cases e:Dz f h N with
 | false=>rfl
 | true=>exact absurd (Az.1 e i hi) hne
theorem Pq(g1 g2 N:Nat)(f h:Nat->Bool)(w:World)(h1:Rb w g1 N f)(h2:Rb w g2 N h)(hN:N<=1099511627776) :
  Calls Tryz.prog 125 #[.slice (some ⟨g1,0,Option.none⟩) N N,.slice (some ⟨g2,0,Option.none⟩) N N] w λe w'=>e=.returned (.bool (Dz f h N))/\∃ m,w'=w.drewN m:=by
 have j:=hid h1;have l:=hid h2;clear h1 h2;go_enter Tryz.func125,Tryz.ntmps125;go_wp2_with fail
 go_loopw [5] (λi r=>∃ k:Nat,k<=N/\i=.int .i64 k/\Hid (∀ i,i<k->f i=h i)/\Hid (∃ m,r=w.drewN m)) (λi _=>N - (intOf i).toNat)
 case atStart=>exact⟨0,aCg _,rfl,hid (λi s=>by omega),hid ⟨0,rfl⟩⟩
 case round=>
  obtain⟨k,u,rfl,o,d⟩:=hrel;rename World=>W0;have q:Hid (Below w.heap.size w W0):=hid (by
   obtain⟨m,rfl⟩:=d.out;exact aCl (aB4 _ _) m)
  have g:Hid (∀ n,∃ m,W0.drewN n=w.drewN m):=hid (λn=>by
   obtain⟨m,rfl⟩:=d.out;exact⟨m+n,by rw[World.drewN_drewN]⟩)
  by_cases b:k<N
  ·have c1:=(q.out.cell (p:=⟨g1,k,Option.none⟩) j.out.1).trans (j.out.2 k b);have c2:=(q.out.cell (p:=⟨g2,k,Option.none⟩) l.out.1).trans (l.out.2 k b);by_cases a:f k=h k
   ·have c:=hid a;rw[a]at c1;clear a;have v:(h k !=h k)=false:=by simp
    go_wp2_with fail
    go_quiet (fail)
    go_wp2_with fail;go_roundw
    case rel=>
     refine⟨k+1,by omega,by go_num,hid (λi s=>?_),hid (g.out _)⟩;by_cases e:i=k
     ·subst e;exact c.out
     ·exact o.out i (by omega)
    case measure=>simp[intOf];omega
   ·have c:=hid (ae6 b a);cases ha:f k <;> cases hb:h k
    ·exact absurd (ha.trans hb.symm) a
    ·rw[ha]at c1;rw[hb]at c2;clear a ha hb;go_wp2_with fail
     go_quiet (fail)
     go_wp2_with fail;go_ret;exact⟨by rw[c.out];rfl,g.out _⟩
    ·rw[ha]at c1;rw[hb]at c2;clear a ha hb;go_wp2_with fail
     go_quiet (fail)
     go_wp2_with fail;go_ret;exact⟨by rw[c.out];rfl,g.out _⟩
    ·exact absurd (ha.trans hb.symm) a
  ·obtain rfl:k=N:=by omega
   have t:=hid (Az.2 o.out);go_wp2_with fail;go_ret;exact⟨by rw[t.out];rfl,d.out⟩
theorem dH(w:World)(cs:List Value)(t:TypeId):∀ j u,cs[j]?=some u->(w.alloc (.cells cs.toArray t)).cell? ((⟨w.heap.size,0,none⟩:Addr).add j)=some u:=λj u hj=>by
 rw[Addr.add_mid,aCR (w.alloc (.cells cs.toArray t)) w.heap.size (0+j) cs.toArray t (0,0) (heap_alloc_last w _)];simpa using hj
theorem dN{w:World}{B e s n:Nat}{v:Value}{xs:List Value}(h:w.ownsRow B e s v n xs)(p:Addr)(u:Value)(h2:v.ownBlock≠some p.block):(w.setCell p u).ownsRow B e s v n xs:=
 h.kept (row:=some p.block) ⟨rfl,rfl,rfl,by rw[aCr];exact aB2 _,λq hq hne=>aCD _ _ _ _ (λe=>hne (by rw[e]))⟩ (aCb h2)
structure KB (w w':World) (T:Nat) (r1 r2:Option Nat):Prop where
 os:w'.os=w.os
 tape:w'.tape=w.tape
 output:w'.output=w.output
 size:w.heap.size<=w'.heap.size
 block:∀ k,k<w.heap.size->k≠T->some k≠r1->some k≠r2->w'.heap[k]?=w.heap[k]?
theorem KB.of_below{w w':World}{T:Nat}{r1 r2:Option Nat}(h:Below w.heap.size w w'):KB w w' T r1 r2:=⟨h.os,h.tape,h.output,h.size,λk hk _ _ _=>h.block k hk⟩
theorem KB.cell{w w':World}{T:Nat}{r1 r2:Option Nat}(h:KB w w' T r1 r2){p:Addr}(hp:p.block<w.heap.size)(h1:p.block≠T)(h2:some p.block≠r1)(h3:some p.block≠r2):w'.cell? p=w.cell? p:=aCn (h.block _ hp h1 h2 h3)
theorem nu{w w':World}{T B e s n:Nat}{r1 r2:Option Nat}{v:Value}{xs:List Value}(h:w.ownsRow B e s v n xs)(f:KB w w' T r1 r2)(h1:v.ownBlock≠some T)(h2:v.ownBlock=none\/v.ownBlock≠r1)(h3:v.ownBlock=none\/v.ownBlock≠r2):w'.ownsRow B e s v n xs:=by
 refine⟨h.1,?_⟩;rcases h.2 with h0 | ⟨g,cap,cur,ev,hb,hg,r⟩
 ·exact aCa h0
 ·subst ev;refine aCb ⟨g,cap,cur,rfl,hb,?_,r⟩;rw[f.block g (dC hg) (λe=>h1 (by rw[<-e];rfl)) (λe=>by
   rcases h2 with h2 | h2
   ·simp[Value.ownBlock]at h2
   ·exact h2 (by rw[<-e];rfl)) (λe=>by
   rcases h3 with h3 | h3
   ·simp[Value.ownBlock]at h3
   ·exact h3 (by rw[<-e];rfl))]
  exact hg
theorem KA{B0:Nat}{a w w':World}{T:Nat}{r1 r2:Option Nat}(h:Below B0 a w)(f:KB w w' T r1 r2)(hB:B0<=w.heap.size)(h1:B0<=T)(h2:∀ k,r1=some k->B0<=k)(h3:∀ k,r2=some k->B0<=k):Below B0 a w':=
 ⟨f.os.trans h.os,f.tape.trans h.tape,f.output.trans h.output,aCW h.size f.size,λk hk=>(f.block k (by omega) (by omega) (λe=>by have:=h2 k e.symm;omega) (λe=>by have:=h3 k e.symm;omega)).trans (h.block k hk)⟩
def qZ(rs:List (Nat × Nat))(M:Nat):List Value:=rs.flatMap λp=>[.slice (some ⟨p.1,0,none⟩) M M,.slice (some ⟨p.2,0,none⟩) M M]
theorem Xi(rs:List (Nat × Nat))(M:Nat)(p:Nat × Nat):qZ (rs++[p]) M=qZ rs M++[.slice (some ⟨p.1,0,none⟩) M M,.slice (some ⟨p.2,0,none⟩) M M]:=by simp[qZ]
theorem yT{rs:List (Nat × Nat)}{M i:Nat}{p:Nat × Nat}(h:rs[i]?=some p):(qZ rs M)[i*2]?=some (.slice (some ⟨p.1,0,none⟩) M M)/\(qZ rs M)[i*2+1]?=some (.slice (some ⟨p.2,0,none⟩) M M):=by
 induction rs generalizing i with
 | nil=>simp at h
 | cons q qs ih=>
  cases i with
  | zero=>simp at h;subst h;simp[qZ]
  | succ i=>
   have:=ih (by simpa using h);rw[show qZ (q::qs) M=[.slice (some ⟨q.1,0,none⟩) M M,.slice (some ⟨q.2,0,none⟩) M M]++qZ qs M by simp[qZ]];rw[aCi (by simp;omega),aCi (by simp;omega)];simpa [show (i+1)*2 - 2=i*2 by omega,show (i+1)*2+1 - 2=i*2+1 by omega] using this
structure BK (w:World) (B T M:Nat) (vS vO vN:Value) (rs:List (Nat × Nat)) (fs:List ((Nat->Bool) × (Nat->Bool))) (outs:List Nat):Prop where
 t:Three w T vS vO vN
 tB:T<B
 len:fs.length=rs.length
 ZG:outs.length=rs.length
 st:w.ownsRow B 144 2 vS rs.length (qZ rs M)
 ou:w.ownsRow B 3 1 vO rs.length (aI outs)
 row:∀ (i:Nat) p q,rs[i]?=some p->fs[i]?=some q->w.ownsRow B 4 1 (.slice (some ⟨p.1,0,none⟩) M M) M (ax q.1 M M)/\w.ownsRow B 4 1 (.slice (some ⟨p.2,0,none⟩) M M) M (ax q.2 M M)
theorem BK.below{w w':World}{B T M:Nat}{vS vO vN:Value}{rs:List (Nat × Nat)}{fs:List ((Nat->Bool) × (Nat->Bool))}{outs:List Nat}(h:BK w B T M vS vO vN rs fs outs)(hb:Below w.heap.size w w'):BK w' B T M vS vO vN rs fs outs:=
 ⟨h.t.below hb h.t.lt,h.tB,h.len,h.ZG,ai h.st hb,ai h.ou hb,λi p q h1 h2=>⟨ai (h.row i p q h1 h2).1 hb,ai (h.row i p q h1 h2).2 hb⟩⟩
theorem xA{w:World}{B g M:Nat}{f:Nat->Bool}(h:w.ownsRow B 4 1 (.slice (some ⟨g,0,none⟩) M M) M (ax f M M)):Rb w g M f:=⟨(h.lt _ rfl).2,λi hi=>by rw[h.cellAt i (by omega)];exact kV _ _ _ hi⟩
theorem Tryz.ZY:(Tryz.prog.info? 144).map (λi=>(i.zero,i.size,i.bytes))=some (some (.agg #[.slice none 0 0,.slice none 0 0]),2,48):=by kernel_rfl
def auQ(w:World)(B T M:Nat)(vS vO vN:Value)(rs:List (Nat × Nat))(fs:List ((Nat->Bool) × (Nat->Bool)))(outs:List Nat)(by_ bn:Nat)(f h:Nat->Bool)(e:Ending)(w':World):Prop:=
 ∃ j vS' vO' rs' fs' outs',e=.returned (.int .i64 (j:Nat))/\BK w' B T M vS' vO' vN rs' fs' outs'/\KB w w' T vS.ownBlock vO.ownBlock /\
  (vO'.ownBlock=vO.ownBlock\/∃ q,vO'.ownBlock=some q/\w.heap.size<=q) /\
  ((rs'=rs/\fs'=fs/\outs'=outs/\∃ p,fs[j]?=some p/\(∀ i,i<M->p.1 i=f i)) \/
  (j=rs.length/\rs'=rs++[(by_,bn)]/\fs'=fs++[(f,h)]/\outs'=outs++[Du (jJ f M) (jJ h M)]/\∀ p∈fs,¬ ((∀ i,i<M->p.1 i=f i)/\∀ i,i<M->p.2 i=h i)))
theorem Yk(w:World)(B T M:Nat)(vS vO vN:Value)(rs:List (Nat × Nat))(fs:List ((Nat->Bool) × (Nat->Bool)))(outs:List Nat)(by_ bn:Nat)(f h:Nat->Bool)(hm:BK w B T M vS vO vN rs fs outs)(hB:B<=w.heap.size)(hlen:rs.length<=8589934592)(hM:M<=1099511627776)
  (h1:w.ownsRow B 4 1 (.slice (some ⟨by_,0,none⟩) M M) M (ax f M M)) (h2:w.ownsRow B 4 1 (.slice (some ⟨bn,0,none⟩) M M) M (ax h M M)) :
  Calls Tryz.prog 77 #[.pointer (some ⟨T,0,none⟩),.agg #[.slice (some ⟨by_,0,none⟩) M M,.slice (some ⟨bn,0,none⟩) M M]] w (auQ w B T M vS vO vN rs fs outs by_ bn f h):=by
 have hT:=hm.t.lt;have hTB:=hm.tB;have R:=hid hm;have H1:=hid h1;have H2:=hid h2;obtain⟨L,G,rfl⟩:=ak hm.st;obtain⟨U,V,rfl⟩:=ak hm.ou;obtain⟨i0,hi,aT,aP,aO⟩:=info_parts Tryz.ZY;obtain⟨i1,jU,gJ,gI,gG⟩:=info_parts Tryz.mE;have JN:=hid (λq (h:(Value.slice L rs.length G).ownBlock=some q)=>hm.st.lt q h);have oI:=hid (λq (h:(Value.slice U rs.length V).ownBlock=some q)=>hm.ou.lt q h);clear hm h1 h2;generalize Bf:rs.length=n at *;have H:=hid Bf;clear Bf;have ba:=hid ((aB4 w.heap.size w).alloc (aB2 _) (.cells #[.slice (some ⟨by_,0,none⟩) M M,.slice (some ⟨bn,0,none⟩) M M] 144));go_enter Tryz.func77,Tryz.ntmps77;go_wp2_with fail
 go_loopw [5] (λi wq=>∃ k:Nat,k<=n/\i=.int .i64 k/\Hid (∀ i p,i<k->fs[i]?=some p->¬ ((∀ i,i<M->p.1 i=f i)/\∀ i,i<M->p.2 i=h i))/\Hid (Two wq w.heap.size (.slice (some ⟨by_,0,none⟩) M M) (.slice (some ⟨bn,0,none⟩) M M))/\w.heap.size<wq.heap.size/\Hid (Below w.heap.size w wq)) (λi _=>n - (intOf i).toNat)
 case atStart=>exact⟨0,aCg _,rfl,hid (λi p h=>by omega),hid (bY _ _ _ _),by simp,ba⟩
 case round=>
  obtain⟨k,hk,rfl,HA,HX,j,x⟩:=hrel;rename World=>b;clear ba;have C:=hid (R.out.below x.out);have cT:=C.out.t.c0;have x0:=HX.out.c0;have x1:=HX.out.c1;by_cases hlk:k<n
  ·obtain⟨p,l⟩:∃ p,rs[k]?=some p:=⟨rs[k]'(by rw[H.out];exact hlk),aB3 (by rw[H.out];exact hlk)⟩;obtain⟨q,s⟩:∃ q,fs[k]?=some q:=by
    have h9:k<fs.length:=by rw[R.out.len,H.out];exact hlk
    exact⟨fs[k],aB3 h9⟩
   obtain⟨o1,o2⟩:=C.out.row k p q l s;obtain⟨p1,p2⟩:=p;obtain⟨q1,q2⟩:=q;have yh:=C.out.st;rw[H.out]at yh;obtain⟨gS,rfl,hgS,al9,hcS⟩:=eZ yh (by omega);have y0:b.cell? ⟨gS,k*2,none⟩=some (.slice (some ⟨p1,0,none⟩) M M):=by rw[yh.cellAt (k*2) (by omega),(yT l).1]
   have y1:b.cell? ⟨gS,k*2+1,none⟩=some (.slice (some ⟨p2,0,none⟩) M M):=by rw[yh.cellAt (k*2+1) (by omega),(yT l).2]
   have C1:=λm=>Pq p1 by_ M q1 f (b.drewN m) ((xA o1).drewN m) ((xA (ai H1.out x.out)).drewN m) hM;have C2:=λm=>Pq p2 bn M q2 h (b.drewN m) ((xA o2).drewN m) ((xA (ai H2.out x.out)).drewN m) hM;have HQ:=hid s;clear l s o1 o2 yh;have cT':∀ m,(b.drewN m).cell? ⟨T,0,none⟩=some (.slice (some ⟨gS,0,none⟩) n G):=λm=>cT;have y1':∀ m,(b.drewN m).cell? ⟨gS,k*2+1,none⟩=some (.slice (some ⟨p2,0,none⟩) M M):=λm=>y1;have Ji:∀ m,(b.drewN m).cell? ⟨w.heap.size,1,none⟩=some (.slice (some ⟨bn,0,none⟩) M M):=λm=>x1;have hS1:=hid (Az (f:=q1) (h:=f) (N:=M));have X9:=hid (Az (f:=q2) (h:=h) (N:=M));generalize Dz q1 f M=s1 at *;generalize Dz q2 h M=s2 at *;go_wp2_with fail
   go_quiet ((go_at_call 125;exact Calls.quiet_of (C1 _)))
   have z1:=cT' nq;have z2:=y1' nq;have z3:=Ji nq;have C3:=λm=>(by rw[World.drewN_drewN];exact C2 (nq+m):Calls Tryz.prog 125 #[.slice (some ⟨p2,0,none⟩) M M,.slice (some ⟨bn,0,none⟩) M M] ((b.drewN nq).drewN m) λe w'=>e=.returned (.bool s2)/\∃ m',w'=((b.drewN nq).drewN m).drewN m');have aK:=hid (aCl x.out nq);have HX1:Hid (Two (b.drewN nq) w.heap.size (.slice (some ⟨by_,0,none⟩) M M) (.slice (some ⟨bn,0,none⟩) M M)):=hid (HX.out.below (aCl (aB4 b.heap.size b) nq) j);have tT:w.heap.size<(b.drewN nq).heap.size:=j;clear C1 C2 cT' y1' Ji cT x0 x1 y0 y1 x HX C;generalize b.drewN nq=W1 at *;go_wp2_with fail
   go_quiet ((go_at_call 125;exact Calls.quiet_of (C3 _)))
   have aM:=hid (aCl aK.out nq);have Iq:Hid (Two (W1.drewN nq) w.heap.size (.slice (some ⟨by_,0,none⟩) M M) (.slice (some ⟨bn,0,none⟩) M M)):=hid (HX1.out.below (aCl (aB4 W1.heap.size W1) nq) tT);have qP:w.heap.size<(W1.drewN nq).heap.size:=tT;clear C3 z1 z2 z3 aK HX1;generalize W1.drewN nq=W2 at *;have xQ:Hid ((s1&&s2)=false->∀ i p,i<k+1->fs[i]?=some p->¬ ((∀ i,i<M->p.1 i=f i)/\∀ i,i<M->p.2 i=h i)):=hid (λe i p hi l=>by
    by_cases c:i=k
    ·subst c;rw[HQ.out]at l;cases l;rintro ⟨a1,a2⟩;rw[hS1.out.2 a1,X9.out.2 a2]at e;cases e
    ·exact HA.out i p (by omega) l)
   cases s1 with
   | false=>
    go_wp2_with fail;go_roundw
    case rel=>exact⟨k+1,by omega,by go_num,hid (xQ.out rfl),Iq,qP,aM⟩
    case measure=>simp[intOf];omega
   | true=>
    cases s2 with
    | false=>
     go_wp2_with fail;go_roundw
     case rel=>exact⟨k+1,by omega,by go_num,hid (xQ.out rfl),Iq,qP,aM⟩
     case measure=>simp[intOf];omega
    | true=>
     go_wp2_with fail;go_ret;have JP:=R.out.below aM.out;exact⟨k,_,_,rs,fs,outs,rfl,JP,KB.of_below aM.out,aCa rfl,aCa ⟨rfl,rfl,rfl,(q1,q2),HQ.out,hS1.out.1 (by first | rfl | trivial)⟩⟩
  ·obtain rfl:k=n:=by omega
   have TD:=RY by_ bn M f h b (xA (ai H1.out x.out)) (xA (ai H2.out x.out)) hM;generalize htd:Du (jJ f M) (jJ h M)=td at *;have HTD:=hid htd;clear htd;go_wp2_with fail;refine TD.mono ?_;rintro e b ⟨rfl,rfl⟩;clear TD;go_wp2_with fail;have fT:=C.out.t.fz 0 (by omega);have CR:T<b.heap.size:=by omega
   have OW:=C.out.st;rw[H.out]at OW;have OW:=hid OW;have aaA:Hid (∀ q,(Value.slice L k G).ownBlock=some q->q<w.heap.size):=hid (λq h=>(JN.out q h).2);have aup:Hid (∀ q,(Value.slice L k G).ownBlock=some q->B<=q):=hid (λq h=>(JN.out q h).1);have Ui:(Value.slice L k G).ownBlock≠some T:=λe=>by have:=aup.out _ e;omega
   have XH:Hid (b.cell? ⟨w.heap.size,0,none⟩=some (.slice (some ⟨by_,0,none⟩) M M)/\b.cell? ⟨w.heap.size,1,none⟩=some (.slice (some ⟨bn,0,none⟩) M M)):=hid ⟨x0,x1⟩;refine wp_region_held_drew (S:=λW=>W.cell? ⟨w.heap.size,0,none⟩=some (.slice (some ⟨by_,0,none⟩) M M)/\W.cell? ⟨w.heap.size,1,none⟩=some (.slice (some ⟨bn,0,none⟩) M M)) (by kernel_rfl) XH.out (λaD=>?_);refine aCc (i:=0) (oi:={ dst:=some 50,op:=Op.move (.tmp 0),type:=_,pos:=_,after:=_,guard:=none }) (v:=(Value.pointer (some ⟨T,0,none⟩))) rfl (by kernel_rfl) (by kernel_rfl) (by kernel_rfl) (λ_ _ _ h=>h) (aCa ⟨by rfl,by intro w' z;(try dsimp only at z);go_simp⟩) (by assumption) ?_
   simp only[Act.put,aB1,aB5,aB6];refine aCc (i:=1) (oi:={ dst:=some 51,op:=Op.move (.tmp 0),type:=_,pos:=_,after:=_,guard:=none }) (v:=(Value.pointer (some ⟨T,0,none⟩))) rfl (by kernel_rfl) (by kernel_rfl) (by kernel_rfl) (λ_ _ _ h=>h) (aCa ⟨by rfl,by intro w' z;(try dsimp only at z);go_simp⟩) (by assumption) ?_
   simp only[Act.put,aB1,aB5,aB6];refine aCc (i:=2) (oi:={ dst:=some 52,op:=Op.nilCheck (.tmp 51),type:=_,pos:=_,after:=_,guard:=none }) (v:=(Value.pointer (some ⟨T,0,none⟩))) rfl (by kernel_rfl) (by kernel_rfl) (by kernel_rfl) (λ_ _ _ h=>h) (aCa ⟨by rfl,by intro w' z;(try dsimp only at z);go_simp⟩) (by assumption) ?_
   simp only[Act.put,aB1,aB5,aB6];refine aCc (i:=3) (oi:={ dst:=some 53,op:=Op.fieldAddr _ (.tmp 52) 0,type:=_,pos:=_,after:=_,guard:=none }) (v:=(Value.pointer (some ⟨T,0,none⟩))) rfl (by kernel_rfl) (by kernel_rfl) (by kernel_rfl) (λ_ _ _ h=>h) (aCa ⟨by rfl,by intro w' z;(try dsimp only at z);go_simp⟩) (by assumption) ?_
   simp only[Act.put,aB1,aB5,aB6];refine aCc (i:=5) (oi:={ dst:=some 55,op:=Op.load 144 (.tmp 3),type:=_,pos:=_,after:=_,guard:=none }) (v:=(Value.agg #[Value.slice (some ⟨by_,0,none⟩) M M,Value.slice (some ⟨bn,0,none⟩) M M])) rfl (by kernel_rfl) (by kernel_rfl) (by kernel_rfl) (λ_ _ _ h=>h) (aCa ⟨by rfl,by intro w' z;obtain⟨hSa,hSb⟩:=z;go_simp⟩) (by assumption) ?_;simp only[Act.put,aB1,aB5,aB6];refine aCk (rs:=[4,6]) (by kernel_rfl) (by simp) ?_;refine aCf rfl (λK r=>?_) (aCf rfl (λK r=>?_) aCj)
   focus
    go_simp
    refine r.out _ _ (by assumption) (λaD=>?_);clear r K;refine aCk (rs:=[6]) (by kernel_rfl) (by simp) ?_;refine aCf rfl (λK r=>?_) aCj
    go_simp
    refine r.out _ _ ⟨by show (b.alloc _).cell? _=_;rw[aCB _ _ _ j];exact XH.out.1,by show (b.alloc _).cell? _=_;rw[aCB _ _ _ j];exact XH.out.2⟩ (λaD=>?_)
   rotate_left
   focus
    go_simp
    refine r.out _ _ ⟨by show (b.alloc _).cell? _=_;rw[aCB _ _ _ j];exact XH.out.1,by show (b.alloc _).cell? _=_;rw[aCB _ _ _ j];exact XH.out.2⟩ (λaD=>?_);clear r K;refine aCk (rs:=[4]) (by kernel_rfl) (by simp) ?_;refine aCf rfl (λK r=>?_) aCj
    go_simp
    refine r.out _ _ (by assumption) (λaD=>?_)
   all_goals
    clear r K;refine aCk (rs:=[7]) (by kernel_rfl) (by simp) ?_;refine aCf rfl (λK r=>?_) aCj;refine aCV _ (by rfl) (.tmp 54) (.tmp 56) 79 (by rfl) B 144 i0 (.agg #[.slice none 0 0,.slice none 0 0]) 2 48 Tryz.underlying79 hi aT aP aO rfl (by decide) _ k (qZ rs M) (by rfl) ((OW.out.alloc _).drew) ⟨b.heap.size,0,none⟩ 1 1 [.slice (some ⟨by_,0,none⟩) M M,.slice (some ⟨bn,0,none⟩) M M] (by rfl) (by rfl) (dH b _ _) (by intro y hy;simp at hy;rcases hy with rfl | rfl <;> rfl) (by decide) (by unfold maxLen;omega) (by omega) (by simp;omega) (b.heap.size+1) (by simp) ?_
    intro A D u X d hat iy;have E:∀ q,some q=(Value.slice L k G).ownBlock->q<w.heap.size:=λq h=>aaA.out q h.symm;have Eg:A≠T:=by
     rcases hat with h | h
     ·exact λe=>Ui (by rw[<-e];exact h)
     ·omega
    have afV:b.heap.size+1<=u.heap.size:=by
     have h4:(b.drew.alloc (.cells #[Value.slice (some ⟨by_,0,none⟩) M M,Value.slice (some ⟨bn,0,none⟩) M M] 144)).heap.size<=u.heap.size:=d.size;rw[aB7]at h4;exact h4
    have O:KB b u T (Value.slice L k G).ownBlock none:=⟨d.os,d.tape,d.output,by omega,λq s h1 h2 _=>by
     rw[d.block q (by show q<(b.alloc (.cells #[Value.slice (some ⟨by_,0,none⟩) M M,Value.slice (some ⟨bn,0,none⟩) M M] 144)).heap.size;rw[aB7];omega) h2];show (b.alloc (.cells #[Value.slice (some ⟨by_,0,none⟩) M M,Value.slice (some ⟨bn,0,none⟩) M M] 144)).heap[q]?=_;rw[aCt _ _ _ (by omega)]⟩
    have T2:Three u T (.slice L k G) (.slice U k V) vN:=by
     have hb:=d.block T (by show T<(b.alloc (.cells #[Value.slice (some ⟨by_,0,none⟩) M M,Value.slice (some ⟨bn,0,none⟩) M M] 144)).heap.size;rw[aB7];omega) (λe=>Ui e.symm);have hc:∀ o,u.cell? ⟨T,o,none⟩=b.cell? ⟨T,o,none⟩:=λo=>by
      rw[aCn (a:=⟨T,o,none⟩) hb];show (b.alloc (.cells #[Value.slice (some ⟨by_,0,none⟩) M M,Value.slice (some ⟨bn,0,none⟩) M M] 144)).cell? ⟨T,o,none⟩=_;exact aCB _ _ _ CR
     have hf:∀ o,u.frozen? ⟨T,o,none⟩=b.frozen? ⟨T,o,none⟩:=λo=>by
      rw[aCo (a:=⟨T,o,none⟩) hb];show (b.alloc (.cells #[Value.slice (some ⟨by_,0,none⟩) M M,Value.slice (some ⟨bn,0,none⟩) M M] 144)).frozen? ⟨T,o,none⟩=_;exact aCS _ _ _ CR
     exact⟨(hc 0).trans C.out.t.c0,(hc 1).trans C.out.t.c1,(hc 2).trans C.out.t.c2,λo I=>(hf o).trans (C.out.t.fz o I)⟩
    have g2:u.cell? ⟨w.heap.size,0,none⟩=some (.slice (some ⟨by_,0,none⟩) M M)/\u.cell? ⟨w.heap.size,1,none⟩=some (.slice (some ⟨bn,0,none⟩) M M):=⟨(O.cell (p:=⟨w.heap.size,0,none⟩) j (by show w.heap.size≠T;omega) (λe=>Nat.lt_irrefl _ (E _ e)) (by simp)).trans XH.out.1,(O.cell (p:=⟨w.heap.size,1,none⟩) j (by show w.heap.size≠T;omega) (λe=>Nat.lt_irrefl _ (E _ e)) (by simp)).trans XH.out.2⟩;have Y:=hid (T2.set0 (.slice (some ⟨A,0,none⟩) (k+1) D));have D2:=hid (dN X ⟨T,0,none⟩ (.slice (some ⟨A,0,none⟩) (k+1) D) (by simpa [Value.ownBlock] using Eg));have P:=C.out.ou;rw[H.out]at P;have Z4:(Value.slice U k V).ownBlock≠some T:=λe=>by have:=(oI.out _ e).1;omega
    have D3:=hid (dN (nu P O Z4 (aY P OW.out (by decide)) (by cases (Value.slice U k V).ownBlock <;> simp)) ⟨T,0,none⟩ (.slice (some ⟨A,0,none⟩) (k+1) D) Z4)
    have RW:Hid (∀ (g M:Nat) (F:Nat->Bool),b.ownsRow B 4 1 (.slice (some ⟨g,0,none⟩) M M) M (ax F M M)->(u.setCell ⟨T,0,none⟩ (.slice (some ⟨A,0,none⟩) (k+1) D)).ownsRow B 4 1 (.slice (some ⟨g,0,none⟩) M M) M (ax F M M)):=hid (λg M F I=>by
     have hn:(Value.slice (some ⟨g,0,none⟩) M M).ownBlock≠some T:=λe=>by have:=(I.lt _ e).1;omega
     exact dN (nu I O hn (aY I OW.out (by decide)) (by simp[Value.ownBlock])) ⟨T,0,none⟩ _ hn)
    have Bz:Hid (KB w (u.setCell ⟨T,0,none⟩ (.slice (some ⟨A,0,none⟩) (k+1) D)) T (Value.slice L k G).ownBlock none):=hid ⟨O.os.trans x.out.os,O.tape.trans x.out.tape,O.output.trans x.out.output,by rw[aCr];omega,λq s h1 h2 h3=>by
     rw[aCD _ _ _ _ h1,O.block q (by omega) h1 h2 h3];exact x.out.block q s⟩
    refine r.out _ _ g2 (λaD=>?_);have wE:Hid ((u.setCell ⟨T,0,none⟩ (.slice (some ⟨A,0,none⟩) (k+1) D)).cell? ⟨w.heap.size,0,none⟩=some (.slice (some ⟨by_,0,none⟩) M M)/\(u.setCell ⟨T,0,none⟩ (.slice (some ⟨A,0,none⟩) (k+1) D)).cell? ⟨w.heap.size,1,none⟩=some (.slice (some ⟨bn,0,none⟩) M M)):=hid ⟨by rw[aB8 _ _ _ _ (λe=>by have:=congrArg Addr.block e;simp at this;omega)];exact g2.1,by rw[aB8 _ _ _ _ (λe=>by have:=congrArg Addr.block e;simp at this;omega)];exact g2.2⟩;have c2:=T2.c0;have f2:=T2.fz 0 (by omega);clear r K X d hat g2 E P O T2;simp only[Act.put,aB1];refine aCc (i:=8) (oi:={ dst:=some 58,op:=Op.nilCheck (.tmp 50),type:=_,pos:=_,after:=_,guard:=none }) (v:=(Value.pointer (some ⟨T,0,none⟩))) rfl (by kernel_rfl) (by kernel_rfl) (by kernel_rfl) (λ_ _ _ h=>h) (aCa ⟨by rfl,by intro w' z;(try dsimp only at z);go_simp⟩) (by assumption) ?_
    simp only[Act.put];refine aCc (i:=9) (oi:={ dst:=some 59,op:=Op.fieldAddr _ (.tmp 58) 0,type:=_,pos:=_,after:=_,guard:=none }) (v:=(Value.pointer (some ⟨T,0,none⟩))) rfl (by kernel_rfl) (by kernel_rfl) (by kernel_rfl) (λ_ _ _ h=>h) (aCa ⟨by rfl,by intro w' z;(try dsimp only at z);go_simp⟩) (by assumption) ?_
    simp only[Act.put];refine aCk (rs:=[10]) (by kernel_rfl) (by simp) ?_;refine aCf rfl (λK r=>?_) aCj
    go_simp
    refine r.out _ _ wE.out (λaD=>?_);clear r K;refine aC0 (by kernel_rfl) ?_ _;clear aD c2 f2 cT fT wE x0 x1;have aze:w.heap.size<(u.setCell ⟨T,0,none⟩ (.slice (some ⟨A,0,none⟩) (k+1) D)).heap.size:=by rw[aCr];omega
    generalize u.setCell ⟨T,0,none⟩ (.slice (some ⟨A,0,none⟩) (k+1) D)=W5 at *;have e0:=Y.out.c0;have e1:=Y.out.c1;have e2:=Y.out.fz 1 (by omega);go_wp2_with (at_builtin;go_must (refine aCE _ rfl (.tmp 64) (.tmp 66) 22 rfl B 3 i1 (.int .i64 0) 1 8 Tryz.underlying22 jU gJ gI gG rfl (by decide) _ k (aI outs) rfl (D3.out.alloc _) ⟨W5.heap.size,0,none⟩ 1 1 [.int .i64 (td:Nat)] rfl rfl (dH W5 [.int .i64 (td:Nat)] _) (by intro y hy;simp at hy;rcases hy with rfl;rfl) (by decide) (by unfold maxLen;omega) (by omega) (by simp;omega) (W5.heap.size+1) (by simp) ?_));intro J Z w6 Be iG Eh alW;have Ua:W5.heap.size<=w6.heap.size:=by
     have h4:=iG.size;simp at h4;omega
    have Ut:J≠T:=by
     rcases Eh with h | h
     ·exact λe=>Z4 (by rw[<-e];exact h)
     ·omega
    have sU:KB W5 w6 T (Value.slice U k V).ownBlock none:=⟨iG.os,iG.tape,iG.output,Ua,λq s h1 h2 _=>by
     rw[iG.block q (by rw[aB7];omega) h2,aCt _ _ _ (by omega)]⟩
    have Gz:=iG.block T (by rw[aB7];omega) (λe=>Z4 e.symm);have T6:Three w6 T (.slice (some ⟨A,0,none⟩) (k+1) D) (.slice U k V) vN:=by
     have hc:∀ o,w6.cell? ⟨T,o,none⟩=W5.cell? ⟨T,o,none⟩:=λo=>by
      rw[aCn (a:=⟨T,o,none⟩) Gz];exact aCB _ _ _ (by show T<W5.heap.size;omega)
     have hf:∀ o,w6.frozen? ⟨T,o,none⟩=W5.frozen? ⟨T,o,none⟩:=λo=>by
      rw[aCo (a:=⟨T,o,none⟩) Gz];exact aCS _ _ _ (by show T<W5.heap.size;omega)
     exact⟨(hc 0).trans Y.out.c0,(hc 1).trans Y.out.c1,(hc 2).trans Y.out.c2,λo I=>(hf o).trans (Y.out.fz o I)⟩
    have q0:=T6.c0;have q1:=T6.c1;have q2:=T6.fz 1 (by omega);have E1:=hid (T6.set1 (.slice (some ⟨J,0,none⟩) (k+1) Z));have e10:=E1.out.c0;have Mc:(Value.slice (some ⟨A,0,none⟩) (k+1) D).ownBlock≠some T:=by simpa [Value.ownBlock] using Eg
    have E2:=hid (dN (nu D2.out sU Mc (aY D2.out D3.out (by decide)) (by simp[Value.ownBlock])) ⟨T,1,none⟩ (.slice (some ⟨J,0,none⟩) (k+1) Z) Mc);have E3:=hid (dN Be ⟨T,1,none⟩ (.slice (some ⟨J,0,none⟩) (k+1) Z) (by simpa [Value.ownBlock] using Ut));have Q:Hid (∀ (g M:Nat) (F:Nat->Bool),b.ownsRow B 4 1 (.slice (some ⟨g,0,none⟩) M M) M (ax F M M)->(w6.setCell ⟨T,1,none⟩ (.slice (some ⟨J,0,none⟩) (k+1) Z)).ownsRow B 4 1 (.slice (some ⟨g,0,none⟩) M M) M (ax F M M)):=hid (λg M F I=>by
     have hn:(Value.slice (some ⟨g,0,none⟩) M M).ownBlock≠some T:=λe=>by have:=(I.lt _ e).1;omega
     have h5:=RW.out _ _ _ I;exact dN (nu h5 sU hn (aY h5 D3.out (by decide)) (by simp[Value.ownBlock])) ⟨T,1,none⟩ _ hn)
    have KBF:Hid (KB w (w6.setCell ⟨T,1,none⟩ (.slice (some ⟨J,0,none⟩) (k+1) Z)) T (Value.slice L k G).ownBlock (Value.slice U k V).ownBlock):=hid ⟨sU.os.trans Bz.out.os,sU.tape.trans Bz.out.tape,sU.output.trans Bz.out.output,by rw[aCr];omega,λq s h1 h2 h3=>by
     rw[aCD _ _ _ _ h1,sU.block q (by omega) h1 h3 (by simp),Bz.out.block q s h1 h2 (by simp)]⟩
    have OB:Hid ((Value.slice (some ⟨J,0,none⟩) (k+1) Z).ownBlock=(Value.slice U k V).ownBlock\/∃ q,(Value.slice (some ⟨J,0,none⟩) (k+1) Z).ownBlock=some q/\w.heap.size<=q):=hid (by
     rcases Eh with h | h
     ·exact aCa (by rw[h];rfl)
     ·exact aCb ⟨J,rfl,by omega⟩)
    clear Be iG Eh sU T6 Gz Y D2 D3 e0 e1 e2;go_wp2_with fail;go_ret;refine⟨k,.slice (some ⟨A,0,none⟩) (k+1) D,.slice (some ⟨J,0,none⟩) (k+1) Z,rs++[(by_,bn)],fs++[(f,h)],outs++[td],by go_num,⟨E1.out,hTB,by rw[aCd,aCd,R.out.len];rfl,by rw[aCd,aCd,R.out.ZG];rfl,?_,?_,?_⟩,KBF.out,OB.out,aCb ⟨H.out.symm,rfl,rfl,by rw[HTD.out],λp l=>?_⟩⟩
    ·rw[aCd,H.out,Xi];exact E2.out
    ·rw[aCd,H.out,show aI (outs++[td])=aI outs++[.int .i64 (td:Nat)] by simp[aI]];exact E3.out
    ·intro i p q l s;by_cases c:i<rs.length
     ·rw[aCh c]at l;rw[aCh (by rw[R.out.len];exact c)]at s;obtain⟨r1,r2⟩:=C.out.row i p q l s;exact⟨Q.out _ _ _ r1,Q.out _ _ _ r2⟩
     ·have c2:=(aB9.1 l).1;simp at c2;have c3:i=rs.length:=by omega
      subst c3;rw[<-R.out.len]at s;simp at l s;subst l;subst s;exact⟨Q.out _ _ _ (ai H1.out x.out),Q.out _ _ _ (ai H2.out x.out)⟩
    ·obtain⟨i,hi,e⟩:=aCK l;exact HA.out i p (by rw[<-H.out,<-R.out.len];exact hi) (by rw[aB3 hi,e])
