import Derived.Test.YtjagijohfkffiabGreatFREM22
set_option maxHeartbeats 16000000
set_option maxRecDepth 100000
set_option linter.unusedSimpArgs false
namespace Go.Proofs.YtjagijohfkffiabGreat
set_option linter.unusedVariables false
theorem Ve{n:Nat}{nx:Nat->Nat->Nat}(h:ji n nx){i a:Nat}(hi:i<n)(ha:a<8):nx i a<n:=by
 have h1:=qI nx (show 8*i+a+1<=8*n by omega);simp only[met]at h1;rw[h.2,show (8*i+a) / 8=i by omega,show (8*i+a) % 8=a by omega]at h1;omega
theorem Ez{n:Nat}{nx:Nat->Nat->Nat}(h:ji n nx):0<n:=by
 have:=ah4 nx (8*n);rw[h.2]at this;exact this
theorem ZI{n:Nat}{nx:Nat->Nat->Nat}(hc:∀ i a,i<n->a<8->nx i a<n):∀ (w:List Nat) (i:Nat),i<n->mZ w->kH nx i w<n
 | [],i,hi,_=>hi
 | a::w,i,hi,hw=>ZI hc w (nx i a) (hc i a hi (hw a (List.mem_cons_self ..))) (λx hx=>hw x (List.mem_cons_of_mem _ hx))
structure Av (ns:List Nd) (n:Nat) (out:Nat->Nat) (nx:Nat->Nat->Nat):Prop where
 num:ji n nx
 apart:Apart n out nx
 tells:∀ w,mZ w->pQ ns w (out (kH nx 0 w))
theorem I8{ns:List Nd}{n n':Nat}{out out':Nat->Nat}{nx nx':Nat->Nat->Nat}(h:Av ns n out nx)(k:Av ns n' out' nx'):n=n'/\(∀ i,i<n->out i=out' i)/\∀ i a,i<n->a<8->nx i a=nx' i a:=
 QL h.num k.num h.apart k.apart λw hw=>Ae (h.tells w hw) (k.tells w hw)
def Big(ns:List Nd):Prop:=∀ n out nx,Av ns n out nx->8<n
theorem ae1{ns:List Nd}{n:Nat}{out:Nat->Nat}{nx:Nat->Nat->Nat}(h:Av ns n out nx)(hn:8<n):Big ns:=λn' out' nx' k=>by
 have:=(I8 h k).1;omega
section
variable {ns:List Nd} {aa:Nat->Bool} {us:List (List Nat)} {xs:List Nat}
theorem Bp(hE:jk ns aa (bu ns aa) us xs)(hx:xs.length=8*us.length):∀ i a,i<us.length->a<8->dZ xs i a<us.length:=λi a hi ha=>by
 obtain⟨_,u1,_,h1,_⟩:=hE.ok (8*i+a) (by omega);exact(aA1.1 h1).1
theorem yH(hg:Good ns)(hl:jQ ns (bH ns ns.length) aa)(hE:jk ns aa (bu ns aa) us xs)(hx:xs.length=8*us.length){w:List Nat}(hw:mZ w):pQ ns w (iJ ns aa (bu ns aa) us (kH (dZ xs) 0 w)):=by
 let x:Nat->Nat:=λi=>w.getD i 0
 have hL:jY x:=λt=>by
  show w.getD t 0<8;rw[List.getD];cases e:w[t]? with
  | none=>simp
  | some y=>exact hw y (aBB e)
 let sp:Nat->Nat:=λt=>Nat.rec 0 (λt s=>dZ xs s (x t)) t
 have e:pre x w.length=w:=by
  unfold pre;apply List.ext_getElem
  ·simp
  ·intro i h1 h2;simp[x,List.getD,aAV h2]
 have hsp:∀ t,sp t=kH (dZ xs) 0 (pre x t):=λt=>by
  induction t with
  | zero=>rfl
  | succ t ih=>
   rw[QV,Ct,<-ih];rfl
 have:=QE hg hl hE hx hL (sp:=sp) rfl (λt=>rfl) w.length;rw[hsp,e]at this;exact this
theorem Yl(hg:Good ns)(hl:jQ ns (bH ns ns.length) aa)(hE:jk ns aa (bu ns aa) us xs)(hx:xs.length=8*us.length){kd out':Nat->Nat}{nx':Nat->Nat->Nat}(hf:Fo kd us.length)
  (hh:Pv us.length (iJ ns aa (bu ns aa) us) (dZ xs) kd out' nx') (hk:∀ i j,i<us.length->j<us.length->iU (iJ ns aa (bu ns aa) us) (dZ xs) (iJ ns aa (bu ns aa) us) (dZ xs) i j->kd i=kd j):Av ns (bI kd us.length) out' nx':=by
 have hpos:0<us.length:=(aA1.1 hE.first).1
 have hc:=Bp hE hx;have k0:kd 0=0:=by
  have:=hf 0 hpos;simp only[bI]at this;omega
 refine⟨PT hpos (DV hE hx) hh hc hf,aaP hh hc hf hk,λw hw=>?_⟩;have h1:=Jh hh hc hpos w hw;rw[k0]at h1;rw[<-h1];exact yH hg hl hE hx hw
theorem abx(hE:jk ns aa (bu ns aa) us xs)(hx:xs.length=8*us.length):∀ i,i<us.length->∃ w,mZ w/\kH (dZ xs) 0 w=i:=by
 have hn:=DV hE hx;have key:∀ p,p<=8*us.length->∀ i,i<met (dZ xs) p->∃ w,mZ w/\kH (dZ xs) 0 w=i:=by
  intro p
  induction p with
  | zero=>
   intro _ i hi;simp only[met]at hi;exact⟨[],λx hx=>by simp at hx,by show 0=i;omega⟩
  | succ p ih=>
   intro hp i hi;by_cases c:i<met (dZ xs) p
   ·exact ih (by omega) i c
   ·simp only[met]at hi;obtain⟨h1,h2⟩:=hn.1 p (by omega);obtain⟨w,h3,h4⟩:=ih (by omega) _ h1;refine⟨w++[p % 8],λx hx=>?_,?_⟩
    ·rcases aBy.1 hx with hx | hx
     ·exact h3 x hx
     ·simp at hx;omega
    ·rw[Ct,h4];show dZ xs (p / 8) (p % 8)=i;omega
 intro i hi;exact key (8*us.length) (aAU _) i (by rw[hn.2];exact hi)
theorem aaz(hg:Good ns)(hl:jQ ns (bH ns ns.length) aa)(hE:jk ns aa (bu ns aa) us xs)(hx:xs.length=8*us.length){kd:Nat->Nat}(hf:Fo kd us.length)
  (hk:∀ i j,i<us.length->j<us.length->iU (iJ ns aa (bu ns aa) us) (dZ xs) (iJ ns aa (bu ns aa) us) (dZ xs) i j->kd i=kd j) (h8:8<bI kd us.length):Big ns:=by
 intro n out nx hm;have hc:=Bp hE hx;have hpos:0<us.length:=(aA1.1 hE.first).1
 have hn:=Ez hm.num;have L0:iU (iJ ns aa (bu ns aa) us) (dZ xs) out nx 0 0:=λw hw=>Ae (yH hg hl hE hx hw) (hm.tells w hw);have ex:∀ c,∃ s r,c<bI kd us.length->s<n/\r<us.length/\kd r=c/\iU (iJ ns aa (bu ns aa) us) (dZ xs) out nx r s:=λc=>by
  by_cases hc0:c<bI kd us.length
  ·obtain⟨r,h1,h2,_⟩:=JQ hf hc0;obtain⟨w,h3,h4⟩:=abx hE hx r h1;refine⟨kH nx 0 w,r,λ_=>⟨ZI (λi a hi ha=>Ve hm.num hi ha) w 0 hn h3,h1,h2,λv hv=>?_⟩⟩;have:=L0 (w++v) (λx hx=>by
    rcases aBy.1 hx with hx | hx
    ·exact h3 x hx
    ·exact hv x hx)
   rw[Ct,Ct,h4]at this;exact this
  ·exact⟨0,0,λh=>absurd h hc0⟩
 let s:Nat->Nat:=λc=>Classical.choose (ex c)
 have hs:∀ c,∃ r,c<bI kd us.length->s c<n/\r<us.length/\kd r=c/\iU (iJ ns aa (bu ns aa) us) (dZ xs) out nx r (s c):=λc=>Classical.choose_spec (ex c);have inj:∀ c d,c<bI kd us.length->d<bI kd us.length->s c=s d->c=d:=λc d h1 h2 e=>by
  obtain⟨r,hr⟩:=hs c;obtain⟨q,hq⟩:=hs d;obtain⟨_,a1,a2,a3⟩:=hr h1;obtain⟨_,b1,b2,b3⟩:=hq h2;rw[e]at a3;rw[<-a2,<-b2];exact hk r q a1 b1 (pJ a3 (ru b3))
 have hnd:((List.range (bI kd us.length)).map s).Nodup:=by
  rw[List.nodup_iff_pairwise_ne,List.pairwise_map];refine List.Pairwise.imp_of_mem ?_ (List.nodup_iff_pairwise_ne.1 List.nodup_range);intro a b ha hb hne e;exact hne (inj a b (by simpa using ha) (by simpa using hb) e)
 have:=CE _ _ hnd (λy hy=>by
  obtain⟨c,h1,rfl⟩:=aBM.1 hy;obtain⟨r,hr⟩:=hs c;exact(hr (by simpa using h1)).1)
 simp only[aBG,List.length_range]at this;omega
end
/-! ### The reference's way: through what is met -/
def rG(ms:List Nat)(i:Nat):Nat:=ms.getD i 0
section
variable (out:Nat->Nat) (nx:Nat->Nat->Nat)
structure DY (K:Nat) (ms xs:List Nat):Prop where
 first:ms[0]?=some 0
 lt:∀ m∈ms,m<K
 FU:ms.Pairwise λa b=>¬ iU out nx out nx a b
 ok:∀ p,p<xs.length->∃ m0 m1,ms[p / 8]?=some m0/\ms[xs.getD p 0]?=some m1/\iU out nx out nx (nx m0 (p % 8)) m1
 num:ms.length=met (dZ xs) xs.length
 I7:∀ p,p<xs.length->p / 8<met (dZ xs) p/\xs.getD p 0<=met (dZ xs) p
end
section
variable {out:Nat->Nat} {nx:Nat->Nat->Nat} {K:Nat} {ms xs:List Nat}
theorem vD(i:Nat):iU out nx out nx i i:=λw _=>rfl
theorem Zb(hK:0<K):DY out nx K [0] []:=⟨rfl,λm hm=>by simp at hm;omega,by simp,λp hp=>by simp at hp,rfl,λp hp=>by simp at hp⟩
theorem aha(h:DY out nx K ms xs){m0 m1 j:Nat}(h0:ms[xs.length / 8]?=some m0)(h1:ms[j]?=some m1)(hq:iU out nx out nx (nx m0 (xs.length % 8)) m1):DY out nx K ms (xs++[j]):=by
 have hj:=(aA1.1 h1).1;have hi:=(aA1.1 h0).1;have hn:=h.num;refine⟨h.first,h.lt,h.FU,λp hp=>?_,?_,λp hp=>?_⟩
 ·rw[aA5,aBn]at hp;by_cases e:p=xs.length
  ·subst e;rw[dN];exact⟨m0,m1,h0,h1,hq⟩
  ·rw[fq (by omega)];exact h.ok p (by omega)
 ·rw[aA5,aBn,met,mP _ (aAU _),vz,dN,<-h.num];omega
 ·rw[aA5,aBn]at hp;rw[mP p (by omega)];by_cases e:p=xs.length
  ·subst e;rw[dN,<-h.num];exact⟨hi,by omega⟩
  ·rw[fq (by omega)];exact h.I7 p (by omega)
theorem ahb(h:DY out nx K ms xs){m0:Nat}(h0:ms[xs.length / 8]?=some m0)(hlt:nx m0 (xs.length % 8)<K)(hall:∀ m∈ms,¬ iU out nx out nx (nx m0 (xs.length % 8)) m):DY out nx K (ms++[nx m0 (xs.length % 8)]) (xs++[ms.length]):=by
 have hi:=(aA1.1 h0).1;have hn:=h.num;have old:∀ {i m:Nat},ms[i]?=some m->(ms++[nx m0 (xs.length % 8)])[i]?=some m:=λ{i u} hu=>by
  rw[aA9 (aA1.1 hu).1];exact hu
 refine⟨old h.first,λm hm=>?_,?_,λp hp=>?_,?_,λp hp=>?_⟩
 ·rcases aBy.1 hm with hm | hm
  ·exact h.lt m hm
  ·simp at hm;omega
 ·rw[List.pairwise_append];refine⟨h.FU,by simp,λa ha b hb=>?_⟩;simp at hb;subst hb;exact λhk=>hall a ha (ru hk)
 ·rw[aA5,aBn]at hp;by_cases e:p=xs.length
  ·subst e;rw[dN];exact⟨m0,nx m0 (xs.length % 8),old h0,by simp,vD _⟩
  ·rw[fq (by omega)];obtain⟨a,b,h1,h2,h3⟩:=h.ok p (by omega);exact⟨a,b,old h1,old h2,h3⟩
 ·rw[aA5,aBn,aA5,aBn,met,mP _ (aAU _),vz,dN,<-h.num];omega
 ·rw[aA5,aBn]at hp;rw[mP p (by omega)];by_cases e:p=xs.length
  ·subst e;rw[dN,<-h.num];exact⟨hi,by omega⟩
  ·rw[fq (by omega)];exact h.I7 p (by omega)
theorem LH(h:DY out nx K ms xs):ms.length<=K:=CE _ _ (by
 rw[List.nodup_iff_pairwise_ne];exact h.FU.imp λhab e=>hab (by subst e;exact vD _)) h.lt
theorem Qq(h:DY out nx K ms xs)(he:xs.length=8*ms.length):ji ms.length (dZ xs):=by
 refine⟨λp hp=>?_,?_⟩
 ·rw[vz];exact h.I7 p (by omega)
 ·rw[<-he,<-h.num]
theorem Cg(h:DY out nx K ms xs)(he:xs.length=8*ms.length):∀ (w:List Nat) (m i:Nat),i<ms.length->mZ w->iU out nx out nx m (rG ms i)->out (kH nx m w)=out (rG ms (kH (dZ xs) i w))
 | [],m,i,hi,_,hk=>hk [] (λx hx=>by simp at hx)
 | a::w,m,i,hi,hw,hk=>by
  have ha:=hw a (List.mem_cons_self ..);obtain⟨m0,m1,h1,h2,h3⟩:=h.ok (8*i+a) (by omega);rw[show (8*i+a) / 8=i by omega]at h1;rw[show (8*i+a) % 8=a by omega]at h3;have e0:rG ms i=m0:=by simp[rG,List.getD,h1]
  have e1:rG ms (dZ xs i a)=m1:=by show ms.getD (xs.getD (8*i+a) 0) 0=m1;simp only[List.getD]at h2 ⊢;rw[h2];rfl
  rw[e0]at hk;simp only[kH];exact Cg h he w (nx m a) (dZ xs i a) (aA1.1 h2).1 (λx hx=>hw x (List.mem_cons_of_mem _ hx)) (by rw[e1];exact pJ (zl hk ha) h3)
theorem Zc(h:DY out nx K ms xs)(he:xs.length=8*ms.length):Apart ms.length (λi=>out (rG ms i)) (dZ xs):=by
 intro i j hi hj hk;have Yx:iU out nx out nx (rG ms i) (rG ms j):=λw hw=>by
  rw[Cg h he w _ i hi hw (vD _),Cg h he w _ j hj hw (vD _)];exact hk w hw
 have hd:=List.pairwise_iff_getElem.1 h.FU;have ei:rG ms i=ms[i]:=by simp[rG,List.getD,aAV hi]
 have ej:rG ms j=ms[j]:=by simp[rG,List.getD,aAV hj]
 rw[ei,ej]at Yx;rcases Nat.lt_trichotomy i j with c | c | c
 ·exact absurd Yx (hd i j hi hj c)
 ·exact c
 ·exact absurd (ru Yx) (hd j i hj hi c)
theorem acJ{ns:List Nd}{aa:Nat->Bool}{us:List (List Nat)}{ys:List Nat}(hg:Good ns)(hl:jQ ns (bH ns ns.length) aa)(hE:jk ns aa (bu ns aa) us ys)(hy:ys.length=8*us.length)
  (h:DY (iJ ns aa (bu ns aa) us) (dZ ys) us.length ms xs) (he:xs.length=8*ms.length):Av ns ms.length (λi=>iJ ns aa (bu ns aa) us (rG ms i)) (dZ xs):=by
 refine⟨Qq h he,Zc h he,λw hw=>?_⟩;have h0:rG ms 0=0:=by simp[rG,List.getD,h.first]
 have:=Cg h he w 0 0 (aA1.1 h.first).1 hw (by rw[h0];exact vD _)
 show pQ ns w (iJ ns aa (bu ns aa) us (rG ms (kH (dZ xs) 0 w)));rw[<-this];exact yH hg hl hE hy hw
end
open Go.RowKit
theorem BO.keeps{w w':World}{B g N:Nat}{f:Nat->Bool}(h:BO w B g N f)(hb:Below w.heap.size w w'):BO w' B g N f:=ae h hb
theorem BO.base{w:World}{B B2 g N:Nat}{f:Nat->Bool}(h:BO w B g N f)(hb:B2<=B):BO w B2 g N f:=by
 refine⟨h.1,?_⟩;rcases h.2 with h0 | ⟨x,cap,cur,e,hx,r⟩
 ·exact aA2 h0
 ·exact aA3 ⟨x,cap,cur,e,aBO hb hx,r⟩
structure jX (a:Nat) (w w':World):Prop where
 size:w.heap.size<=w'.heap.size
 block:∀ x,a<=x->x<w.heap.size->w'.heap[x]?=w.heap[x]?
theorem jX.refl(a:Nat)(w:World):jX a w w:=⟨aAU _,λ_ _ _=>rfl⟩
theorem jX.below{a:Nat}{w w' w2:World}(h:jX a w w')(hb:Below w'.heap.size w' w2):jX a w w2:=⟨aBO h.size hb.size,λx h1 h2=>(hb.block x (aBi h2 h.size)).trans (h.block x h1 h2)⟩
theorem jX.set{a:Nat}{w w':World}(h:jX a w w'){k:Nat}(hk:k<a)(o:Nat)(u:Value):jX a w (w'.setCell ⟨k,o,none⟩ u):=⟨by rw[aBj];exact h.size,λx h1 h2=>(aBv _ _ _ _ (by simp;omega)).trans (h.block x h1 h2)⟩
def MU:Prop:=∀ (P N K:Nat) (to:Nat->List Nat) (kp:Nat->Nat->Bool) (w:World),pq w P N to K kp->0<N->(∀ a,a<N->∀ b∈to a,b<N)->(∀ a,a<N->(to a).length<=4398046511104)->(∀ a,a<N->∀ j,(to a).count j<=8)->N<=274877906944 ->
  Calls Tryz.prog 123 #[.pointer (some ⟨P,0,none⟩)] w λe w'=>∃ P2 tl,e=.returned (.pointer (some ⟨P2,0,none⟩))/\(∀ w2,jX w.heap.size w' w2->pq w2 P2 N tl 0 kp)/\(∀ j a,a∈tl j↔a<N/\j∈to a)/\(∀ j,(tl j).length<=8*N)/\Below w.heap.size w w'
theorem QS{N:Nat}{E:Nat->Nat->Prop}(hE:∀ x y,E x y->y<N):∀ L a b,qg E (L+1) a b->b<N
 | 0,a,b,h=>by
  obtain⟨c,h1,h2⟩:=h;obtain rfl:c=b:=h2;exact hE _ _ h1
 | L+1,a,b,h=>by
  obtain⟨c,h1,h2⟩:=h;exact QS hE L c b h2
theorem Vb{N:Nat}{to:Nat->List Nat}(hto:∀ a,a<N->∀ b∈to a,b<N){a b:Nat}(h:reach (Ed N to) a b):b<N:=by
 obtain⟨L,h⟩:=h;exact QS (λx y e=>hto x e.1 y e.2) L a b h
theorem JR{N:Nat}{to tl:Nat->List Nat}(hto:∀ a,a<N->∀ b∈to a,b<N)(DJ:∀ j a,a∈tl j↔a<N/\j∈to a){a b:Nat}:reach (Ed N tl) a b↔reach (Ed N to) b a:=by
 have e:Ed N tl=λx y=>Ed N to y x:=by
  funext x y;apply propext;unfold Ed;rw[DJ];exact⟨λh=>h.2,λh=>⟨hto y h.1 x h.2,h⟩⟩
 rw[e];exact xY
def sQ(f:Nat->Bool):Nat->Bool
 | 0=>false
 | x+1=>sQ f x||f x
def qB(f:Nat->Bool):Nat->Bool
 | 0=>true
 | x+1=>qB f x&&f x
theorem Gf(f:Nat->Bool):∀ n,sQ f n=true↔∃ i,i<n/\f i=true
 | 0=>by simp[sQ]
 | n+1=>by
  rw[sQ,aBF,Gf f n];constructor
  ·rintro (⟨i,h1,h2⟩ | h)
   ·exact⟨i,by omega,h2⟩
   ·exact⟨n,by omega,h⟩
  ·rintro ⟨i,h1,h2⟩;by_cases e:i=n
   ·exact aA3 (e ▸ h2)
   ·exact aA2 ⟨i,by omega,h2⟩
theorem Po(f:Nat->Bool):∀ n,qB f n=true↔∀ i,i<n->f i=true
 | 0=>by simp[qB]
 | n+1=>by
  rw[qB,aBz,Po f n];constructor
  ·rintro ⟨h1,h2⟩ i hi;by_cases e:i=n
   ·exact e ▸ h2
   ·exact h1 i (by omega)
  ·intro h;exact⟨λi hi=>h i (by omega),h n (by omega)⟩
def GN(N:Nat)(to:Nat->List Nat)(K:Nat)(kp:Nat->Nat->Bool)(c:Nat):Prop:=xy (Ed N to) (λk i=>kp k i=true) K c
def JJ(a b:Nat->Bool)(kp:Nat->Nat->Bool)(k:Nat):Nat->Bool:=λi=>a i&&b i&&kp k i
def OT(a b:Nat->Bool)(kp:Nat->Nat->Bool)(N:Nat):Nat->Bool:=λk=>sQ (JJ a b kp k) N
theorem aeF{N K c:Nat}{to:Nat->List Nat}{kp:Nat->Nat->Bool}{a b:Nat->Bool}(hto:∀ a,a<N->∀ b∈to a,b<N)(ha:∀ i,a i=true↔reach (Ed N to) c i)(hb:∀ i,b i=true↔reach (Ed N to) i c)(hc:a c=true):qB (OT a b kp N) K=true↔GN N to K kp c:=by
 rw[Po];unfold GN xy;constructor
 ·intro h;refine⟨(ha c).1 hc,λk hk=>?_⟩;obtain⟨i,hi,e⟩:=(Gf _ _).1 (h k hk);simp only[JJ,aBz]at e;exact⟨i,(ha i).1 e.1.1,(hb i).1 e.1.2,e.2⟩
 ·rintro ⟨_,h⟩ k hk;obtain⟨i,h1,h2,h3⟩:=h k hk;refine(Gf _ _).2 ⟨i,Vb hto h1,?_⟩;simp only[JJ,aBz];exact⟨⟨(ha i).2 h1,(hb i).2 h2⟩,h3⟩
structure KV (N:Nat) (to:Nat->List Nat) (K:Nat) (kp:Nat->Nat->Bool) (c:Nat) (done good:Nat->Bool):Prop where
 p1:∀ i,done i=true->(good i=true↔GN N to K kp i)
 p2:∀ i,i<c->done i=true\/¬ reach (Ed N to) i i
 p3:∀ i,done i=false->good i=false
theorem adr(N:Nat)(to:Nat->List Nat)(K:Nat)(kp:Nat->Nat->Bool):KV N to K kp 0 (λ_=>false) (λ_=>false):=⟨λi h=>(by cases h),λi h=>(by omega),λi _=>rfl⟩
theorem ahL{N K c:Nat}{to:Nat->List Nat}{kp:Nat->Nat->Bool}{done good:Nat->Bool}(h:KV N to K kp c done good)(hs:done c=true\/¬ reach (Ed N to) c c):KV N to K kp (c+1) done good:=
 ⟨h.p1,λi hi=>by
  by_cases e:i=c
  ·exact e ▸ hs
  ·exact h.p2 i (by omega),h.p3⟩
theorem ai3{N K c:Nat}{to:Nat->List Nat}{kp:Nat->Nat->Bool}{done good:Nat->Bool}(h:KV N to K kp c done good)(hd:done c=false)(hs:¬ reach (Ed N to) c c):KV N to K kp (c+1) (upd done c true) good:=by
 refine⟨λi hi=>?_,λi hi=>?_,λi hi=>?_⟩
 ·unfold upd at hi;by_cases e:i=c
  ·subst e;rw[h.p3 i hd];exact⟨λh=>(by cases h),λh=>absurd h.1 hs⟩
  ·rw[aBT e]at hi;exact h.p1 i hi
 ·by_cases e:i=c
  ·subst e;exact aA2 (xO _ _ _)
  ·rcases h.p2 i (by omega) with h1 | h1
   ·exact aA2 (Ci h1 (λ_=>rfl))
   ·exact aA3 h1
 ·unfold upd at hi;by_cases e:i=c
  ·rw[aBU e]at hi;cases hi
  ·rw[aBT e]at hi;exact h.p3 i hi
def yD(a b d:Nat->Bool)(x:Nat):Nat->Bool:=λi=>if i<x/\a i=true/\b i=true then true else d i
def zI(a b g:Nat->Bool)(fine:Bool)(x:Nat):Nat->Bool:=λi=>if i<x/\a i=true/\b i=true then fine else g i
theorem ait(a b d:Nat->Bool):yD a b d 0=d:=by funext i;simp[yD]
theorem ail(a b g:Nat->Bool)(fine:Bool):zI a b g fine 0=g:=by funext i;simp[zI]
theorem aiu{a b d:Nat->Bool}{x:Nat}(h:(a x&&b x)=true):upd (yD a b d x) x true=yD a b d (x+1):=by
 rw[aBz]at h;funext i;unfold upd yD;by_cases e:i=x
 ·subst e;rw[aBU rfl,aBU ⟨by omega,h⟩]
 ·rw[aBT e];by_cases e2:i<x/\a i=true/\b i=true
  ·rw[aBU e2,aBU ⟨by omega,e2.2⟩]
  ·rw[aBT e2,aBT (λq=>e2 ⟨by omega,q.2⟩)]
theorem aim{a b g:Nat->Bool}{fine:Bool}{x:Nat}(h:(a x&&b x)=true):upd (zI a b g fine x) x fine=zI a b g fine (x+1):=by
 rw[aBz]at h;funext i;unfold upd zI;by_cases e:i=x
 ·subst e;rw[aBU rfl,aBU ⟨by omega,h⟩]
 ·rw[aBT e];by_cases e2:i<x/\a i=true/\b i=true
  ·rw[aBU e2,aBU ⟨by omega,e2.2⟩]
  ·rw[aBT e2,aBT (λq=>e2 ⟨by omega,q.2⟩)]
theorem anr{a b d:Nat->Bool}{x:Nat}(h:(a x&&b x)=false):yD a b d x=yD a b d (x+1):=by
 funext i;unfold yD;by_cases e:i=x
 ·subst e;rw[aBT (λq=>by omega),aBT (λq=>by rw[q.2.1,q.2.2]at h;cases h)]
 ·by_cases e2:i<x/\a i=true/\b i=true
  ·rw[aBU e2,aBU ⟨by omega,e2.2⟩]
  ·rw[aBT e2,aBT (λq=>e2 ⟨by omega,q.2⟩)]
theorem anq{a b g:Nat->Bool}{fine:Bool}{x:Nat}(h:(a x&&b x)=false):zI a b g fine x=zI a b g fine (x+1):=by
 funext i;unfold zI;by_cases e:i=x
 ·subst e;rw[aBT (λq=>by omega),aBT (λq=>by rw[q.2.1,q.2.2]at h;cases h)]
 ·by_cases e2:i<x/\a i=true/\b i=true
  ·rw[aBU e2,aBU ⟨by omega,e2.2⟩]
  ·rw[aBT e2,aBT (λq=>e2 ⟨by omega,q.2⟩)]
theorem ahM{N K c:Nat}{to:Nat->List Nat}{kp:Nat->Nat->Bool}{done good a b:Nat->Bool}(h:KV N to K kp c done good)(hto:∀ a,a<N->∀ b∈to a,b<N)(ha:∀ i,a i=true↔reach (Ed N to) c i)(hb:∀ i,b i=true↔reach (Ed N to) i c)(hc:a c=true)(hcN:c<N) :
  KV N to K kp (c+1) (yD a b (upd done c true) N) (zI a b good (qB (OT a b kp N) K) N):=by
 have hbc:b c=true:=(hb c).2 ((ha c).1 hc);have hF:=aeF (K:=K) (kp:=kp) hto ha hb hc;refine⟨λi hi=>?_,λi hi=>?_,λi hi=>?_⟩
 ·unfold yD at hi;unfold zI;by_cases e:i<N/\a i=true/\b i=true
  ·rw[aBU e,hF];have h1:=(ha i).1 e.2.1;have h2:=(hb i).1 e.2.2;exact⟨λg=>Sr h1 h2 g,λg=>Sr h2 h1 g⟩
  ·rw[aBT e]at hi ⊢;by_cases e2:i=c
   ·subst e2;exact absurd ⟨hcN,hc,hbc⟩ e
   ·unfold upd at hi;rw[aBT e2]at hi;exact h.p1 i hi
 ·unfold yD;by_cases e:i<N/\a i=true/\b i=true
  ·rw[aBU e];exact aA2 rfl
  ·rw[aBT e];by_cases e2:i=c
   ·subst e2;exact aA2 (xO _ _ _)
   ·rcases h.p2 i (by omega) with h1 | h1
    ·exact aA2 (Ci h1 (λ_=>rfl))
    ·exact aA3 h1
 ·unfold yD at hi;unfold zI;by_cases e:i<N/\a i=true/\b i=true
  ·rw[aBU e]at hi;cases hi
  ·rw[aBT e]at hi ⊢;by_cases e2:i=c
   ·subst e2;rw[xO]at hi;cases hi
   ·unfold upd at hi;rw[aBT e2]at hi;exact h.p3 i hi
theorem ai4{N K:Nat}{to:Nat->List Nat}{kp:Nat->Nat->Bool}{done good:Nat->Bool}(h:KV N to K kp N done good)(i:Nat)(hi:i<N):good i=true↔GN N to K kp i:=by
 cases hd:done i with
 | true=>exact h.p1 i hd
 | false=>
  rcases h.p2 i hi with h1 | h1
  ·rw[hd]at h1;cases h1
  ·rw[h.p3 i hd];exact⟨λq=>(by cases q),λq=>absurd q.1 h1⟩
theorem ZN(HT:MU)(P N K:Nat)(to:Nat->List Nat)(kp:Nat->Nat->Bool)(w:World)(hn:pq w P N to K kp)(hN0:0<N)(hto:∀ a,a<N->∀ b∈to a,b<N)(hlen:∀ a,a<N->(to a).length<=4398046511104)(yw:∀ a,a<N->∀ j,(to a).count j<=8)(hN:N<=274877906944)(hK:K<=65536) :
  Calls Tryz.prog 122 #[.pointer (some ⟨P,0,none⟩)] w λe w'=>∃ g good,e=.returned (.slice (some ⟨g,0,none⟩) N N)/\w.heap.size<=g/\BO w' w.heap.size g N good/\(∀ i,i<N->(good i=true↔GN N to K kp i))/\Below w.heap.size w w':=by
 obtain⟨v0,c0,ao,cap,rfl,hcap,hrow⟩:=hn.c0;obtain⟨v1,c1,aok,axP,rfl,axF,GR⟩:=hn.c1;have hP:=hn.lt;have IE:=hid hn;have HKR:=hid GR;obtain⟨i0,hi,aR,aP,aN⟩:=info_parts Tryz.eD;have zX:=hid hto;have Ls:=hid hlen;have Xh:=hid yw;have WQ:=hid HT;clear hrow GR hn hto hlen yw HT;go_enter Tryz.func122,Tryz.ntmps122;go_wp2_with (at_make;go_must (refine aBA _ rfl (.tmp 21) (.tmp 21) 132 rfl w.heap.size 4 i0 (.bool false) 1 Tryz.underlying132 hi aR aP .i64 .i64 N N N rfl rfl rfl rfl ?m2 ?m3 (aAU _) ?_))
 case m2=>rw[aN];omega
 case m3=>unfold maxLen;omega
 intro w1 aF aZ;have eo:(madeCells #[Value.bool false] N).toList=List.replicate N (.bool false):=aBq _ _;rw[eo,<-dh (λ_=>false),show ay (λ_=>false) N 0=ay (λ_=>false) N N by simp[ay]]at aF;have aM:Below w.heap.size w w1:=(aAW _ _).grown aZ (aAU _) (λk h=>by cases h);have OG:Hid (BO w1 w.heap.size w.heap.size N (λ_=>false)):=hid aF;have uC:=aM.size;have hl0:=OG.out.blk.2;have aK:=hid aM;clear aF aZ eo aM;go_wp2_with (at_make;go_must (refine aBA _ rfl (.tmp 23) (.tmp 23) 132 rfl w.heap.size 4 i0 (.bool false) 1 Tryz.underlying132 hi aR aP .i64 .i64 N N N rfl rfl rfl rfl ?m2 ?m3 uC ?_))
 case m2=>rw[aN];omega
 case m3=>unfold maxLen;omega
 intro w2 dR lM;have eo:(madeCells #[Value.bool false] N).toList=List.replicate N (.bool false):=aBq _ _;rw[eo,<-dh (λ_=>false),show ay (λ_=>false) N 0=ay (λ_=>false) N N by simp[ay]]at dR;have OD:Hid (BO w2 w.heap.size w1.heap.size N (λ_=>false)):=hid dR;have OG2:=hid (OG.out.grown lM);have RQ:=OD.out.blk.2;have ak:=aK.out.grown lM uC (λk h=>by cases h);have oO:=ak.size;have aW:=hid ak;clear dR lM eo OG aK ak;generalize hg1:w1.heap.size=g1 at *;go_wp2_with fail;refine(WQ.out P N K to kp w2 (IE.out.below aW.out) hN0 zX.out Ls.out Xh.out hN).mono ?_;rintro e w3 ⟨P2,tl,rfl,ST,DJ,jW,aI⟩;have mI:=hid ST;have Gr:=hid DJ;have qw:=hid jW;have OG3:=hid (OG2.out.keeps aI);have OD3:=hid (OD.out.keeps aI);have ER:=aI.size;have cu:=hid (aW.out.trans (aI.mono oO));clear OG2 OD aW aI ST DJ jW;go_wp2_with fail;refine(adR P N K to kp w3 (IE.out.below cu.out) zX.out Ls.out (by omega)).mono ?_;rintro e w4 ⟨gl,lv,rfl,kz,OL,sF,eH⟩;have HOL:=hid OL;have uj:=hid sF;have OG4:=hid (OG3.out.keeps eH);have OD4:=hid (OD3.out.keeps eH);have ajT:=eH.size;have iN:=hid (cu.out.trans (eH.mono (by omega)));have HSY:=hid ((jX.refl w2.heap.size w3).below eH);have ng1:gl≠w.heap.size:=by omega
 have ng2:gl≠g1:=by omega
 have ng3:g1≠w.heap.size:=by omega
 have dV:=iN.out.size;clear OG3 OD3 cu eH OL sF;go_wp2_with fail
 go_loopw [8] (λi wq=>∃ (c:Nat) (done good:Nat->Bool),c<=N/\i=.int .i64 c/\Hid (KV N to K kp c done good)/\Hid (BO wq w.heap.size w.heap.size N good)/\Hid (BO wq w.heap.size g1 N done)/\Hid (BO wq w3.heap.size gl N lv)/\Hid (jX w2.heap.size w3 wq)/\Below w.heap.size w wq) (λi _=>N - (intOf i).toNat)
 case atStart=>exact⟨0,_,_,aA8 _,rfl,hid (adr _ _ _ _),OG4,OD4,HOL,HSY,iN.out⟩
 case round=>
  obtain⟨c,done,good,hc,rfl,HR,HG,HD,HV,HS,hb⟩:=hrel;rename World=>W0;by_cases hlc:c<N
  ·have d1:=HD.out.get hlc;have d2:=HV.out.get hlc;have d3:=HD.out.fz c;have HVC:Hid (lv c=false->¬ reach (Ed N to) c c):=hid (λh r=>by have:=uj.out c r;rw[h]at this;cases this);have pu:=hid (λh=>ahL HR.out (c:=c) h);have WV:=hid (λh=>ai3 HR.out (c:=c) h);have D1:=hid (HD.out.set c true);have D2:=hid (HG.out.other HD.out ng3.symm c (.bool true));have D3:=hid (HV.out.other HD.out ng2 c (.bool true));have D4:=hid (HS.out.set (k:=g1) (by omega) c (.bool true));have kG:=hid (hb.setCell (p:=⟨g1,c,none⟩) (by show w.heap.size<=g1;omega) (.bool true));generalize Wh:done c=dv at *;generalize hvv:lv c=vv at *;have HDV:=hid Wh;clear Wh hvv;cases dv with
   | true=>
    have jR:=hid (pu.out (aA2 rfl));clear pu WV HVC;go_wp2_with fail;go_roundw
    case rel=>exact⟨c+1,done,good,by omega,by go_num,jR,HG,HD,HV,HS,hb⟩
    case measure=>simp[intOf];omega
   | false=>
    cases vv with
    | false=>
     have jR:=hid (pu.out (aA3 (HVC.out rfl)));clear pu WV HVC;go_wp2_with fail;go_roundw
     case rel=>exact⟨c+1,done,good,by omega,by go_num,jR,HG,HD,HV,HS,hb⟩
     case measure=>simp[intOf];omega
    | true=>
     have zZ:=hid (WV.out rfl);clear pu WV HVC HG HD HV HS hb;have FR:=hid (Jl P N K c to kp (W0.setCell ⟨g1,c,none⟩ (.bool true)) (IE.out.below kG.out) zX.out Ls.out hlc (by omega));go_wp2_with fail;refine FR.out.mono ?_;rintro e w5 ⟨ga,a,rfl,hga,OA,haR,bV⟩;have HA:Hid (BO w5 (W0.setCell ⟨g1,c,none⟩ (.bool true)).heap.size ga N a):=hid OA;have HAR:=hid haR;have E1:=hid (D1.out.keeps bV);have E2:=hid (D2.out.keeps bV);have E3:=hid (D3.out.keeps bV);have E4:=hid (D4.out.below bV);have s1:=kG.out.size;have s3:=D4.out.size;have s2:=bV.size;have iG:=hid (kG.out.trans (bV.mono s1));have a1:=HA.out.get hlc;clear D1 D2 D3 D4 kG FR OA haR bV d1 d2 d3;rw[aBj]at s1 s2 s3 hga;have tu:Hid (BO w5 w.heap.size ga N a):=hid (HA.out.base (by rw[aBj];exact s1));clear HA;cases hac:a c with
     | false=>
      rw[hac]at a1;have jR:=hid (zZ.out (λr=>by have:=(HAR.out c).2 r;rw[hac]at this;cases this));clear hac zZ;go_wp2_with fail;go_roundw
      case rel=>exact⟨c+1,_,good,by omega,by go_num,jR,E2,E1,E3,E4,iG.out⟩
      case measure=>simp[intOf];omega
     | true=>
      rw[hac]at a1;have HAC:=hid hac;clear hac zZ;have FB:=hid (Jl P2 N 0 c tl kp w5 (mI.out w5 E4.out) (λx hx y hy=>((Gr.out x y).1 hy).1) (λx hx=>by have:=qw.out x;omega) hlc (by omega));go_wp2_with fail;refine FB.out.mono ?_;rintro e w6 ⟨gb,b,rfl,Hz,OB,hbR,jG⟩;have iQ:Hid (BO w6 w.heap.size gb N b):=hid (BO.base (show BO w6 w5.heap.size gb N b from OB) iG.out.size);have HBR:Hid (∀ i,b i=true↔reach (Ed N to) i c):=hid (λi=>(hbR i).trans (JR zX.out Gr.out));have F1:=hid (E1.out.keeps jG);have F2:=hid (E2.out.keeps jG);have F3:=hid (E3.out.keeps jG);have F4:=hid (E4.out.below jG);have Xk:=hid (tu.out.keeps jG);have Cc:=hid (iG.out.trans (jG.mono iG.out.size));have ax8:w5.heap.size<=gb:=Hz;have ax9:=tu.out.blk.2;have oh:=hid (ahM (K:=K) (kp:=kp) HR.out zX.out HAR.out HBR.out HAC.out hlc);have c16:=(Cc.out.cell (p:=⟨P,1,none⟩) hP).trans c1;clear E1 E2 E3 E4 iG FB OB hbR jG tu a1;go_wp2_with fail
      go_loopw [12,11] (λi f wq=>∃ (k:Nat),k<=K/\i=.int .i64 k/\f=.bool (qB (OT a b kp N) k)/\w6=wq) (λi _ _=>K - (intOf i).toNat)
      case atStart=>exact⟨0,aA8 _,rfl,rfl,rfl⟩
      case round=>
       obtain⟨k,hk,rfl,rfl,e⟩:=hrel;subst e;by_cases hlk:k<K
       ·obtain⟨gk,e,hgk,hkc⟩:=HKR.out (by omega);subst e;obtain⟨bk,ckp,ck,ayc,sD⟩:=hkc k hlk;have ck6:=(Cc.out.cell (p:=⟨gk,k,none⟩) hgk).trans ck;have Iu:=hid (sD.below Cc.out);have HFS:Hid (qB (OT a b kp N) (k+1)=(qB (OT a b kp N) k&&sQ (JJ a b kp k) N)):=hid rfl;clear hkc ck sD;generalize qB (OT a b kp N) k=fv at *;go_wp2_with fail
        go_loopw [14,13] (λi s wq=>∃ (x:Nat),x<=N/\i=.int .i64 x/\s=.bool (sQ (JJ a b kp k) x)/\w6=wq) (λi _ _=>N - (intOf i).toNat)
        case atStart=>exact⟨0,aA8 _,rfl,rfl,rfl⟩
        case round=>
         obtain⟨x,hx,rfl,rfl,e⟩:=hrel;subst e;by_cases fZ:x<N
         ·have t1:=Xk.out.get fZ;have t2:=iQ.out.get fZ;have t3:=Iu.out.cell x fZ;have PP:Hid (sQ (JJ a b kp k) (x+1)=(sQ (JJ a b kp k) x||(a x&&b x&&kp k x))):=hid rfl;generalize sQ (JJ a b kp k) x=sv at *;generalize a x=av at *;generalize b x=bv at *;generalize kp k x=kv at *;cases sv with
          | true=>
           go_wp2_with fail;go_roundw
           case rel=>exact⟨x+1,by omega,by go_num,by rw[PP.out];rfl,trivial⟩
           case measure=>simp[intOf];omega
          | false=>
           cases av with
           | false=>
            go_wp2_with fail;go_roundw
            case rel=>exact⟨x+1,by omega,by go_num,by rw[PP.out];rfl,trivial⟩
            case measure=>simp[intOf];omega
           | true=>
            cases bv with
            | false=>
             go_wp2_with fail;go_roundw
             case rel=>exact⟨x+1,by omega,by go_num,by rw[PP.out];rfl,trivial⟩
             case measure=>simp[intOf];omega
            | true=>
             go_wp2_with fail;go_roundw
             case rel=>exact⟨x+1,by omega,by go_num,by rw[PP.out];rfl,trivial⟩
             case measure=>simp[intOf];omega
         ·obtain rfl:x=N:=by omega
          generalize sQ (JJ a b kp k) x=sv at *;cases fv with
          | true=>
           go_wp2_with fail;go_roundw
           case rel=>exact⟨k+1,by omega,by go_num,by rw[HFS.out];rfl,trivial⟩
           case measure=>simp[intOf];omega
          | false=>
           go_wp2_with fail;go_roundw
           case rel=>exact⟨k+1,by omega,by go_num,by rw[HFS.out];rfl,trivial⟩
           case measure=>simp[intOf];omega
       ·obtain rfl:k=K:=by omega
        have F1z:Hid (BO w6 w.heap.size g1 N (yD a b (upd done c true) 0)):=hid (by rw[ait];exact F1.out);have F2z:Hid (BO w6 w.heap.size w.heap.size N (zI a b good (qB (OT a b kp N) k) 0)):=hid (by rw[ail];exact F2.out);clear F1 F2;generalize qB (OT a b kp N) k=fv at *;go_wp2_with fail
        go_loopw [15] (λi wq=>∃ (x:Nat),x<=N/\i=.int .i64 x/\Hid (BO wq w.heap.size w.heap.size N (zI a b good fv x))/\Hid (BO wq w.heap.size g1 N (yD a b (upd done c true) x))/\Hid (BO wq w3.heap.size gl N lv)/\Hid (BO wq w.heap.size ga N a)/\Hid (BO wq w.heap.size gb N b)/\Hid (jX w2.heap.size w3 wq)/\Below w.heap.size w wq) (λi _=>N - (intOf i).toNat)
        case atStart=>exact⟨0,aA8 _,rfl,F2z,F1z,F3,Xk,iQ,F4,Cc.out⟩
        case round=>
         obtain⟨x,hx,rfl,G1,G2,G3,G4,G5,G6,sJ⟩:=hrel;by_cases fZ:x<N
         ·have t1:=G4.out.get fZ;have t2:=G5.out.get fZ;have HDS:=hid (λh=>aiu (a:=a) (b:=b) (d:=upd done c true) (x:=x) h);have HGS:=hid (λh=>aim (a:=a) (b:=b) (g:=good) (fine:=fv) (x:=x) h);have HDN:=hid (λh=>anr (a:=a) (b:=b) (d:=upd done c true) (x:=x) h);have HGN:=hid (λh=>anq (a:=a) (b:=b) (g:=good) (fine:=fv) (x:=x) h);cases hab:(a x&&b x) with
          | false=>
           have H1:=hid (HDN.out hab);have H2:=hid (HGN.out hab);clear HDS HGS HDN HGN;generalize a x=av at *;generalize b x=bv at *;cases av with
           | false=>
            clear hab;go_wp2_with fail;go_roundw
            case rel=>exact⟨x+1,by omega,by go_num,by rw[<-H2.out];exact G1,by rw[<-H1.out];exact G2,G3,G4,G5,G6,sJ⟩
            case measure=>simp[intOf];omega
           | true=>
            obtain rfl:bv=false:=by simpa using hab
            clear hab;go_wp2_with fail;go_roundw
            case rel=>exact⟨x+1,by omega,by go_num,by rw[<-H2.out];exact G1,by rw[<-H1.out];exact G2,G3,G4,G5,G6,sJ⟩
            case measure=>simp[intOf];omega
          | true=>
           have H1:=hid (HDS.out hab);have H2:=hid (HGS.out hab);clear HDS HGS HDN HGN;generalize a x=av at *;generalize b x=bv at *;obtain⟨rfl,rfl⟩:av=true/\bv=true:=by simpa using hab
           clear hab;have m1:ga≠g1:=by omega
           have m2:ga≠w.heap.size:=by omega
           have m3:gb≠g1:=by omega
           have m4:gb≠w.heap.size:=by omega
           have s4:=G2.out.fz x;have s5:=G2.out.get fZ;have A1:=G1.out.other G2.out ng3.symm x (.bool true);have A2:=G2.out.set x true;have A3:=G3.out.other G2.out ng2 x (.bool true);have A4:=G4.out.other G2.out m1 x (.bool true);have A5:=G5.out.other G2.out m3 x (.bool true);have A6:=G6.out.set (k:=g1) (by omega) x (.bool true);rw[H1.out]at A2;have s6:=A1.fz x;have s7:=A1.get fZ;have C1:=A1.set x fv;rw[H2.out]at C1;have C2:=hid (A2.other A1 ng3 x (.bool fv));have C3:=hid (A3.other A1 ng1 x (.bool fv));have C4:=hid (A4.other A1 m2 x (.bool fv));have C5:=hid (A5.other A1 m4 x (.bool fv));have C6:=hid (A6.set (k:=w.heap.size) (by omega) x (.bool fv));have C0:=hid C1;have HBX:=hid ((sJ.setCell (p:=⟨g1,x,none⟩) (by show w.heap.size<=g1;omega) (.bool true)).setCell (p:=⟨w.heap.size,x,none⟩) (aAU _) (.bool fv));clear A1 A2 A3 A4 A5 A6 C1 G1 G2 G3 G4 G5 G6;generalize yD a b (upd done c true) x x=z1 at *;generalize zI a b good fv x x=z2 at *;go_wp2_with fail;go_roundw
           case rel=>exact⟨x+1,by omega,by go_num,C0,C2,C3,C4,C5,C6,HBX.out⟩
           case measure=>simp[intOf];omega
         ·obtain rfl:x=N:=by omega
          go_wp2_with fail;go_roundw
          case rel=>exact⟨c+1,_,_,by omega,by go_num,oh,G1,G2,G3,G6,sJ⟩
          case measure=>simp[intOf];omega
  ·obtain rfl:c=N:=by omega
   have UC:=hid (ai4 HR.out);go_wp2_with fail;go_ret;exact⟨w.heap.size,good,rfl,aAU _,HG.out,UC.out,hb⟩
