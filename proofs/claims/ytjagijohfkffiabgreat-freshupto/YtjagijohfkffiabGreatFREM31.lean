import Derived.Test.YtjagijohfkffiabGreatFREM30
set_option maxHeartbeats 16000000
set_option maxRecDepth 100000
set_option linter.unusedSimpArgs false
namespace Go.Proofs.YtjagijohfkffiabGreat
open Go.RowKit
set_option linter.unusedVariables false
theorem TY(ns:List Nd)(vs:List Nat):∀ (u:List Nat) (f:Nat->Bool) (a:Nat),Bv ns vs (u++[a]) f=iK ns vs (Bv ns vs u f) a vs.length
 | [],f,a=>rfl
 | x::u,f,a=>TY ns vs u _ a
theorem ahd{ns:List Nd}(hg:Good ns){vs:List Nat}(hL:gB ns vs.length (bD vs))(u:List Nat)(hu:∀ x∈u,x<8) :
  pQ ns u (Ck (ja (Bv ns vs u (λi=>bD vs i (ns.length - 1)==true)) vs.length) (ja (Bv ns vs u (λi=>bD vs i (ns.length - 1)==false)) vs.length)):=by
 have h1:=Q8 hg hL u hu true;have h2:=Q8 hg hL u hu false;generalize ja (Bv ns vs u (λi=>bD vs i (ns.length - 1)==true)) vs.length=y at *;generalize ja (Bv ns vs u (λi=>bD vs i (ns.length - 1)==false)) vs.length=n at *;unfold pQ Ck;cases y with
 | true=>exact aA2 ⟨rfl,λh=>by have:=h1.2 h;cases this⟩
 | false=>
  cases n with
  | true=>exact aA3 (aA2 ⟨rfl,h1.1 rfl,λh=>by have:=h2.2 h;cases this⟩)
  | false=>exact aA3 (aA3 ⟨rfl,h1.1 rfl,h2.1 rfl⟩)
section
variable (s:ByteArray) (a1:Option Addr) (l1 c1:Nat) (z1:List Int) (w:World)
end
theorem adP{ns:List Nd}(hg:Good ns){v:Nat}(h:uX ns v):eP (tb v) ns.length=v:=by
 obtain⟨q,h0,hq,_⟩:=h;obtain⟨_,l,_,e⟩:=Br.1 (hq 0);rw[h0]at e;have h1:=lc hg l (q 1);have h2:=Bu hg h1 (dO.refl _ _);rw[<-e]at h2;exact h2.symm
def yr(ns:List Nd)(vs:List Nat)(hd:Bool)(u:List Nat):Nat->Bool:=Bv ns vs u (λi=>bD vs i (ns.length - 1)==hd)
theorem Gy(ns:List Nd)(vs:List Nat)(hd:Bool)(u:List Nat)(a:Nat):yr ns vs hd (u++[a])=iK ns vs (yr ns vs hd u) a vs.length:=TY ns vs u _ a
theorem adp{ns:List Nd}(hg:Good ns){aa:Nat->Bool}(hl:jQ ns (bH ns ns.length) aa){vs:List Nat}(hL:gB ns vs.length (bD vs)){u v:List Nat}(hu:∀ x∈u,x<8)(hv:∀ x∈v,x<8)(b:Bool) :
  (∀ j,j<vs.length->yr ns vs b u j=yr ns vs b v j)↔geq (dW ns aa (bu ns aa) u) (dW ns aa (bu ns aa) v)=true:=by
 constructor
 ·intro h;refine jl.2 λN hN=>?_;rw[Bool.eq_iff_iff,mK hg hl u hu,mK hg hl v hv];cases e:aa N with
  | false=>simp
  | true=>
   have lN:=(hl N).1 e;obtain⟨i,hi,he⟩:=hL.all _ (Aj hg lN);have hc:eP (bD vs i) ns.length=N:=by rw[<-adP hg lN];exact(Dh _ he).symm
   have h1:=h i hi;unfold yr at h1;rw[KT hg hL hu b hi,KT hg hL hv b hi,hc]at h1;cases e1:(back ns u N).testBit (ns.length - 1) <;> cases e2:(back ns v N).testBit (ns.length - 1) <;> rw[e1,e2]at h1 <;> cases b <;> simp_all
 ·intro h j hj;unfold yr;have lj:=Aq hg (hL.live j hj);have h1:=jl.1 h _ (uH (bD vs j) _ hg.le);rw[Bool.eq_iff_iff,mK hg hl u hu,mK hg hl v hv]at h1;have h2:=(hl _).2 lj;simp only[h2,true_and]at h1;rw[KT hg hL hu b hj,KT hg hL hv b hj,Bool.eq_iff_iff.2 h1]
theorem Es{ns:List Nd}(hg:Good ns){aa:Nat->Bool}(hl:jQ ns (bH ns ns.length) aa){vs:List Nat}(hL:gB ns vs.length (bD vs)){u v:List Nat}{a:Nat}(ha:a<8)(hu:∀ x∈u,x<8)(hv:∀ x∈v,x<8)(b:Bool) :
  (∀ j,j<vs.length->yr ns vs b u j=iK ns vs (yr ns vs b v) a vs.length j)↔geq (dW ns aa (bu ns aa) u) (stepG ns aa (dW ns aa (bu ns aa) v) a)=true:=by
 rw[<-Gy,<-qY];refine adp hg hl hL hu (λx hx=>?_) b;rcases aBy.1 hx with hx | hx
 ·exact hv x hx
 ·simp at hx;omega
theorem Nc{ns:List Nd}(hg:Good ns){aa:Nat->Bool}(hl:jQ ns (bH ns ns.length) aa){vs:List Nat}(hL:gB ns vs.length (bD vs)){u:List Nat}(hu:∀ x∈u,x<8) :
  Ck (ja (yr ns vs true u) vs.length) (ja (yr ns vs false u) vs.length)=qx aa (dW ns aa (bu ns aa) u):=
 Ae (ahd hg hL u hu) (Dw hg hl hu)
/-! ### Places: a spot and a set -/
theorem Cx{K M k i:Nat}(hk:k<K)(hi:i<M):k*M+i<K*M:=by
 have h1:(k+1)*M<=K*M:=Nat.mul_le_mul_right _ hk;rw[Nat.succ_mul]at h1;omega
theorem AX{M k i:Nat}(hi:i<M):(k*M+i) % M=i:=by rw[Nat.mul_add_mod'];exact Nat.mod_eq_of_lt hi
theorem JY{M k i:Nat}(hi:i<M):(k*M+i) / M=k:=by
 rw[Nat.add_comm,Nat.add_mul_div_right _ _ (by omega),Nat.div_eq_of_lt hi,aBo]
theorem QX{K M x:Nat}(hx:x<K*M):∃ k i,k<K/\i<M/\x=k*M+i:=by
 have h0:0<M:=by
  rcases Nat.eq_zero_or_pos M with rfl | h
  ·simp at hx
  ·exact h
 refine⟨x / M,x % M,Nat.div_lt_of_lt_mul (by rw[Nat.mul_comm];exact hx),Nat.mod_lt _ h0,?_⟩;rw[Nat.mul_comm];exact(Nat.div_add_mod x M).symm
def MvP(K:Nat)(Mv:Nat->Nat->Nat->Prop)(x sp:Nat->Nat):Prop:=∀ t,sp t<K/\Mv (sp t) (x t) (sp (t+1))
structure Ql (ns:List Nd) (vs:List Nat) (K:Nat) (Mv:Nat->Nat->Nat->Prop) (to:Nat->List Nat) (kp:Nat->Nat->Bool):Prop where
 mem:∀ k i,k<K->i<vs.length->∀ b,b∈to (k*vs.length+i)↔∃ a k' j,a<8/\k'<K/\Mv k a k'/\qy ns (bD vs i) a/\j∈toS ns vs i/\b=k'*vs.length+j
 kept:∀ p k i,p<ns.length->k<K->i<vs.length->kp p (k*vs.length+i)=wK ns vs p i
theorem Mh{ns:List Nd}{vs:List Nat}{i j:Nat}:j∈toS ns vs i↔j<vs.length/\CX ns (bD vs i) (bD vs j):=by
 unfold toS qX;rw[List.mem_filter,aBI,CY]
theorem VJ{ns:List Nd}{vs:List Nat}{K:Nat}{Mv:Nat->Nat->Nat->Prop}{to:Nat->List Nat}{kp:Nat->Nat->Bool}(h:Ql ns vs K Mv to kp){a b:Nat}(ha:a<K*vs.length)(hb:b∈to a):b<K*vs.length:=by
 obtain⟨k,i,hk,hi,rfl⟩:=QX ha;obtain⟨_,k',j,_,h1,_,_,h2,rfl⟩:=(h.mem k i hk hi b).1 hb;exact Cx h1 (Mh.1 h2).1
theorem OY{ns:List Nd}{x:Nat->Nat}{S:Nat->Nat->Bool}(hL:jY x)(h:yN ns x S)(t:Nat):chain ns [] (S t):=by
 refine⟨λi=>x (t+i),λi=>S (t+i),λi=>hL _,⟨λi=>h.step (t+i),λk nd hn i=>?_⟩,dO.refl _ _⟩;obtain⟨t',h1,h2⟩:=h.kept k nd hn (t+i);exact⟨t' - t,by omega,by show ic nd k (S (t+(t' - t)))=true;rw[show t+(t' - t)=t' by omega];exact h2⟩
theorem Ns{ns:List Nd}(hg:Good ns){vs:List Nat}(hL:gB ns vs.length (bD vs)){K:Nat}{Mv:Nat->Nat->Nat->Prop}{to:Nat->List Nat}{kp:Nat->Nat->Bool}(h:Ql ns vs K Mv to kp){k i:Nat}(hk:k<K)(hi:i<vs.length) :
  (∃ c,c<K*vs.length/\reach (Ed (K*vs.length) to) (k*vs.length+i) c/\GN (K*vs.length) to ns.length kp c)↔∃ x sp S,jY x/\sp 0=k/\MvP K Mv x sp/\yN ns x S/\dO ns.length (S 0) (bD vs i):=by
 have hw:=hg.wf;have ei:=Ap (E:=Ed (K*vs.length) to) (K:=λp i=>kp p i=true) (m:=ns.length) (n:=K*vs.length) (a:=k*vs.length+i) (λa b hab=>VJ h hab.1 hab.2) (Cx hk hi);unfold GN;rw[<-ei];constructor
 ·rintro ⟨q,q0,hq,hm⟩;have pt:∀ t,∃ k' i',k'<K/\i'<vs.length/\q t=k'*vs.length+i':=λt=>QX (hq t).1
  let sp:Nat->Nat:=λt=>q t / vs.length
  let si:Nat->Nat:=λt=>q t % vs.length
  have hs:∀ t,sp t<K/\si t<vs.length/\q t=sp t*vs.length+si t:=λt=>by
   obtain⟨k',i',h1,h2,e⟩:=pt t;have e1:sp t=k':=by show q t / vs.length=k';rw[e,JY h2]
   have e2:si t=i':=by show q t % vs.length=i';rw[e,AX h2]
   rw[e1,e2];exact⟨h1,h2,e⟩
  have mv:∀ t,∃ a,a<8/\Mv (sp t) a (sp (t+1))/\qy ns (bD vs (si t)) a/\CX ns (bD vs (si t)) (bD vs (si (t+1))):=λt=>by
   obtain⟨h1,h2,e⟩:=hs t;obtain⟨h3,h4,e'⟩:=hs (t+1);have hb:=(hq t).2;rw[e]at hb;obtain⟨a,k',j,ha,Oe,hm',hr,hj,eb⟩:=(h.mem _ _ h1 h2 _).1 hb;obtain⟨hj1,iB⟩:=Mh.1 hj;have e1:sp (t+1)=k':=by show q (t+1) / vs.length=k';rw[eb,JY hj1]
   have e2:si (t+1)=j:=by show q (t+1) % vs.length=j;rw[eb,AX hj1]
   rw[e1,e2];exact⟨a,ha,hm',hr,iB⟩
  let x:Nat->Nat:=λt=>Classical.choose (mv t)
  have hx:∀ t,x t<8/\Mv (sp t) (x t) (sp (t+1))/\qy ns (bD vs (si t)) (x t)/\CX ns (bD vs (si t)) (bD vs (si (t+1))):=λt=>Classical.choose_spec (mv t);refine⟨x,sp,λt=>bD vs (si t),λt=>(hx t).1,by show q 0 / vs.length=k;rw[q0,JY hi],λt=>⟨(hs t).1,(hx t).2.1⟩,⟨λt=>?_,λp nd hn t=>?_⟩,by
   show dO _ (bD vs (q 0 % vs.length)) _;rw[q0,AX hi];exact dO.refl _ _⟩
  ·exact(kg hw _ _ _).2 ⟨Df hw (hL.live _ (hs t).2.1),(hx t).2.2.1,(hx t).2.2.2⟩
  ·obtain⟨hp,e⟩:=Mf hn;subst e;obtain⟨t',h1,h2⟩:=hm p hp t;refine⟨t',h1,?_⟩;obtain⟨h3,h4,e⟩:=hs t';rw[e,h.kept p _ _ hp h3 h4]at h2;exact h2
 ·rintro ⟨x,sp,S,hx,s0,hm,hR,he⟩;have ex:∀ t,∃ j,j<vs.length/\dO ns.length (S t) (bD vs j):=λt=>hL.all _ (OY hx hR t)
  let si:Nat->Nat:=λt=>if t=0 then i else Classical.choose (ex t)
  have hs:∀ t,si t<vs.length/\dO ns.length (S t) (bD vs (si t)):=λt=>by
   by_cases e:t=0
   ·subst e;exact⟨hi,he⟩
   ·have e2:si t=Classical.choose (ex t):=aBT e;rw[e2];exact Classical.choose_spec (ex t)
  refine⟨λt=>sp t*vs.length+si t,by show sp 0*vs.length+i=_;rw[s0],λt=>⟨Cx (hm t).1 (hs t).1,?_⟩,λp hp t=>?_⟩
  ·obtain⟨_,f2,f3⟩:=(kg hw (x t) (S t) (S (t+1))).1 (hR.step t);exact(h.mem _ _ (hm t).1 (hs t).1 _).2 ⟨x t,sp (t+1),si (t+1),hx t,(hm (t+1)).1,(hm t).2,Cv (hs t).2 f2,Mh.2 ⟨(hs (t+1)).1,FL hw (hs t).2 (hs (t+1)).2 f3⟩,rfl⟩
  ·obtain⟨t',h1,h2⟩:=hR.kept p _ (jo hp) t;refine⟨t',h1,?_⟩;show kp p (sp t'*vs.length+si t')=true;rw[h.kept p _ _ hp (hm t').1 (hs t').1];unfold wK;rw[<-Kh hw (hs t').2 hp];exact h2
theorem JX{ns:List Nd}(hg:Good ns){vs:List Nat}(hL:gB ns vs.length (bD vs)){K:Nat}{Mv:Nat->Nat->Nat->Prop}{to:Nat->List Nat}{kp:Nat->Nat->Bool}(h:Ql ns vs K Mv to kp){good:Nat->Bool}(lX:∀ x,good x=true↔∃ c,c<K*vs.length/\reach (Ed (K*vs.length) to) x c/\GN (K*vs.length) to ns.length kp c){k:Nat}(hk:k<K)(hd:Bool) :
  (∃ i,i<vs.length/\bD vs i (ns.length - 1)=hd/\good (k*vs.length+i)=true)↔∃ x sp,jY x/\sp 0=k/\MvP K Mv x sp/\(fA (λi=>i+1) x ns (ns.length - 1) 0↔hd=true):=by
 have hp:=hg.pos;constructor
 ·rintro ⟨i,hi,hb,hgo⟩;obtain⟨x,sp,S,h1,h2,h3,h4,h5⟩:=(Ns hg hL h hk hi).1 ((lX _).1 hgo);refine⟨x,sp,h1,h2,h3,?_⟩;rw[<-Jp hg.wf h4 _ (by omega),h5 _ (by omega),hb]
 ·rintro ⟨x,sp,h1,h2,h3,h4⟩;obtain⟨S,hS,hR⟩:=pO hg.wf x;obtain⟨i,hi,he⟩:=hL.all _ (OY h1 hR 0);refine⟨i,hi,?_,(lX _).2 ((Ns hg hL h hk hi).2 ⟨x,sp,S,h1,h2,h3,hR,he⟩)⟩;rw[<-he _ (by omega),Bool.eq_iff_iff,hS];exact h4
/-! ### What slips -/
def ll(xs:List Nat)(i:Nat):List Nat:=(List.range 8).map λa=>xs.getD (8*i+a) 0
theorem xB(xs:List Nat)(i:Nat):(ll xs i).length=8:=by simp[ll]
theorem Z6(xs:List Nat){i a:Nat}(ha:a<8):df (ll xs i) a=dZ xs i a:=by simp[df,ll,dZ,List.getD,ha]
theorem IY{xs:List Nat}{i j:Nat}(h:8*i+8<=xs.length):ll (xs++[j]) i=ll xs i:=by
 unfold ll;refine aBP λa ha=>?_;have:a<8:=by simpa using ha
 exact fq (by omega)
theorem IZ{xs:List Nat}{k:Nat}(h:xs.length=8*k+8):xs.drop (8*k)=ll xs k:=by
 apply List.ext_getElem
 ·simp[ll];omega
 ·intro i h1 h2;simp at h1;simp[ll,List.getD,aAV (show 8*k+i<xs.length by omega)]
structure Hf (w:World) (P K:Nat) (out:Nat->Nat) (nx:Nat->List Nat):Prop where
 lt:P<w.heap.size
 c0:∃ ao cap,w.cell? ⟨P,0,none⟩=some (.slice ao K cap)
 c1:∃ v,w.cell? ⟨P,1,none⟩=some v/\NR w v ((List.range K).map out)
 c2:∃ v,w.cell? ⟨P,2,none⟩=some v/\K8 w v K nx
theorem Hf.below{w w':World}{P K:Nat}{out:Nat->Nat}{nx:Nat->List Nat}(h:Hf w P K out nx)(hb:Below w.heap.size w w'):Hf w' P K out nx:=by
 obtain⟨ao,cap,h0⟩:=h.c0;obtain⟨v1,a1,b1⟩:=h.c1;obtain⟨v2,a2,b2⟩:=h.c2;exact⟨aBi h.lt hb.size,⟨ao,cap,(hb.cell (p:=⟨P,0,none⟩) h.lt).trans h0⟩,⟨v1,(hb.cell (p:=⟨P,1,none⟩) h.lt).trans a1,b1.below hb⟩,⟨v2,(hb.cell (p:=⟨P,2,none⟩) h.lt).trans a2,b2.below hb⟩⟩
def Ej(ns:List Nd)(vs:List Nat)(u:List Nat):(Nat->Bool) × (Nat->Bool):=(yr ns vs true u,yr ns vs false u)
def ww(ns:List Nd)(aa:Nat->Bool)(us:List (List Nat)):List Nat:=us.map λu=>qx aa (dW ns aa (bu ns aa) u)
theorem X9(ns:List Nd)(aa:Nat->Bool)(us:List (List Nat)):ww ns aa us=(List.range us.length).map (iJ ns aa (bu ns aa) us):=by
 unfold ww;apply List.ext_getElem
 ·simp
 ·intro i h1 h2;simp at h1;simp[iJ,List.getD,aAV h1]
theorem abW{ns:List Nd}(hg:Good ns){aa:Nat->Bool}(hl:jQ ns (bH ns ns.length) aa){vs:List Nat}(hL:gB ns vs.length (bD vs)){us:List (List Nat)}{xs:List Nat}(hE:jk ns aa (bu ns aa) us xs){u0:List Nat}(h0:us[xs.length / 8]?=some u0){j:Nat}{rs rs':List (Nat × Nat)}(hrs:rs.length=us.length){outs':List Nat}{fs':List ((Nat->Bool) × (Nat->Bool))}{by_ bn:Nat}
  (h:(rs'=rs/\fs'=us.map (Ej ns vs)/\outs'=ww ns aa us/\∃ p,(us.map (Ej ns vs))[j]?=some p/\(∀ i,i<vs.length->p.1 i=iK ns vs (yr ns vs true u0) (xs.length % 8) vs.length i)) \/
  (j=rs.length/\rs'=rs++[(by_,bn)]/\fs'=us.map (Ej ns vs)++[(iK ns vs (yr ns vs true u0) (xs.length % 8) vs.length,iK ns vs (yr ns vs false u0) (xs.length % 8) vs.length)]/\outs'=ww ns aa us++[Ck (ja (iK ns vs (yr ns vs true u0) (xs.length % 8) vs.length) vs.length) (ja (iK ns vs (yr ns vs false u0) (xs.length % 8) vs.length) vs.length)]/\∀ p∈us.map (Ej ns vs),¬ ((∀ i,i<vs.length->p.1 i=iK ns vs (yr ns vs true u0) (xs.length % 8) vs.length i)/\∀ i,i<vs.length->p.2 i=iK ns vs (yr ns vs false u0) (xs.length % 8) vs.length i))) :
  ∃ us',(∃ more,us'=us++more)/\jk ns aa (bu ns aa) us' (xs++[j])/\fs'=us'.map (Ej ns vs)/\outs'=ww ns aa us'/\rs'.length=us'.length:=by
 have DI:=hE.Jb u0 (aBB h0);have ha:xs.length % 8<8:=Nat.mod_lt _ (by omega);rcases h with⟨rfl,rfl,rfl,p,hp,hq⟩ | ⟨rfl,rfl,rfl,rfl,hall⟩
 ·rw[aBk,Option.map_eq_some_iff]at hp;obtain⟨u1,h1,rfl⟩:=hp;refine⟨us,⟨[],by simp⟩,Tg hE h0 h1 ?_,rfl,rfl,hrs⟩;exact(Es hg hl hL ha (hE.Jb u1 (aBB h1)) DI true).1 hq
 ·refine⟨us++[u0++[xs.length % 8]],⟨_,rfl⟩,?_,?_,?_,by simp[hrs]⟩
  ·rw[hrs];refine Ti hE h0 λu hu=>?_;cases e:geq (dW ns aa (bu ns aa) u) (stepG ns aa (dW ns aa (bu ns aa) u0) (xs.length % 8)) with
   | false=>rfl
   | true=>
    have hu8:=hE.Jb u hu;exact absurd ⟨(Es hg hl hL ha hu8 DI true).2 e,(Es hg hl hL ha hu8 DI false).2 e⟩ (hall _ (aBM.2 ⟨u,hu,rfl⟩))
  ·rw[aBE];simp only[List.map_cons,List.map_nil,Ej,Gy]
  ·unfold ww;rw[aBE];simp only[List.map_cons,List.map_nil];rw[<-Gy,<-Gy,Nc hg hl hL (λx hx=>by
    rcases aBy.1 hx with hx | hx
    ·exact DI x hx
    ·simp at hx;omega)]
theorem Ad.grown{w w':World}{B T M:Nat}{vS vO vN:Value}{rs:List (Nat × Nat)}{fs:List ((Nat->Bool) × (Nat->Bool))}{outs:List Nat}(h:Ad w B T M vS vO vN rs fs outs){B2 e2 s2 n2:Nat}{v2:Value}{ys:List Value}(h2:w.ownsRow B2 e2 s2 v2 n2 ys)(hg:w.grownBy w' v2.ownBlock)(hT:v2.ownBlock≠some T)(h1:144≠e2)(h3:4≠e2)(h4:vO.ownBlock=none\/vO.ownBlock≠v2.ownBlock):Ad w' B T M vS vO vN rs fs outs:=by
 have hb:=hg.block T h.t.lt (λe=>hT e.symm);have hc:∀ o,w'.cell? ⟨T,o,none⟩=w.cell? ⟨T,o,none⟩:=λo=>aBf (a:=⟨T,o,none⟩) hb;have hf:∀ o,w'.frozen? ⟨T,o,none⟩=w.frozen? ⟨T,o,none⟩:=λo=>aBg (a:=⟨T,o,none⟩) hb;exact⟨⟨(hc 0).trans h.t.c0,(hc 1).trans h.t.c1,(hc 2).trans h.t.c2,λo ho=>(hf o).trans (h.t.fz o ho)⟩,h.tB,h.len,h.Q6,h.st.kept hg (aC h.st h2 h1),h.ou.kept hg h4,λi p q a b=>⟨(h.row i p q a b).1.kept hg (aC (h.row i p q a b).1 h2 h3),(h.row i p q a b).2.kept hg (aC (h.row i p q a b).2 h2 h3)⟩⟩
theorem Ad.set2{w:World}{B T M:Nat}{vS vO vN:Value}{rs:List (Nat × Nat)}{fs:List ((Nat->Bool) × (Nat->Bool))}{outs:List Nat}(h:Ad w B T M vS vO vN rs fs outs)(v:Value):Ad (w.setCell ⟨T,2,none⟩ v) B T M vS vO v rs fs outs:=
 ⟨h.t.set2 v,h.tB,h.len,h.Q6,ax h.st h.tB 2 v,ax h.ou h.tB 2 v,λi p q a b=>⟨ax (h.row i p q a b).1 h.tB 2 v,ax (h.row i p q a b).2 h.tB 2 v⟩⟩
theorem iE.kb{w w':World}{B e e' j T:Nat}{r1 r2:Option Nat}{v:Value}{V:Nat->Value}{xs:Nat->List Value}(h:iE w B e e' v j V xs)(f:KB w w' T r1 r2)(hT:T<B)(h1:v.ownBlock=none\/v.ownBlock≠r1)(h2:v.ownBlock=none\/v.ownBlock≠r2)(h3:∀ i,i<j->(V i).ownBlock=none\/(V i).ownBlock≠r1)(h4:∀ i,i<j->(V i).ownBlock=none\/(V i).ownBlock≠r2):iE w' B e e' v j V xs:=
 ⟨dI h.out f (λe=>by have:=(h.out.lt _ e).1;omega) h1 h2,λi hi=>dI (h.row i hi) f (λe=>by have:=((h.row i hi).lt _ e).1;omega) (h3 i hi) (h4 i hi)⟩
theorem iE.CJ{w w':World}{B e e' j:Nat}{v:Value}{V:Nat->Value}{xs:Nat->List Value}{r:Option Nat}(h:iE w B e e' v j V xs)(hg:w.grownBy w' r)(h1:v.ownBlock=none\/v.ownBlock≠r)(h3:∀ i,i<j->(V i).ownBlock=none\/(V i).ownBlock≠r):iE w' B e e' v j V xs:=
 ⟨h.out.kept hg h1,λi hi=>(h.row i hi).kept hg (h3 i hi)⟩
def am0(ns:List Nd)(aa:Nat->Bool)(w:World)(e:Ending)(w':World):Prop:=
 ∃ us xs,e=.returned (.pointer (some ⟨w.heap.size,0,none⟩))/\jk ns aa (bu ns aa) us xs/\xs.length=8*us.length/\Hf w' w.heap.size us.length (iJ ns aa (bu ns aa) us) (ll xs)/\Below w.heap.size w w'
theorem aex(R F gp cap:Nat)(ns:List Nd)(bs vs:List Nat)(aa:Nat->Bool)(w:World)(h:xu w R F gp cap ns bs vs)(hg:Good ns)(hM:vs.length<=256)(hl:jQ ns (bH ns ns.length) aa)(hL:gB ns vs.length (bD vs))(Sa:∀ us xs,jk ns aa (bu ns aa) us xs->us.length<=796594185) :
  Calls Tryz.prog 37 #[.pointer (some ⟨R,0,none⟩)] w (am0 ns aa w):=by
 have hR:=h.lt;have HR:=hid h;have HG:=hid hg;have HL:=hid hL;have uj:=hid hl;have yL:=hid Sa;obtain⟨i0,hi,aR,aP,aN⟩:=info_parts Tryz.lW;obtain⟨i1,iC,fe,eZ,eY⟩:=info_parts Tryz.ym;clear h hg hl hL Sa;go_enter Tryz.func37,Tryz.ntmps37;go_wp2_with fail;have ba:=(aAW w.heap.size w).alloc (aAU _) (.cells #[.slice none 0 0,.slice none 0 0,.slice none 0 0] 81);have T1:=dH w (.slice none 0 0) (.slice none 0 0) (.slice none 0 0) 81;refine(Em R F gp cap ns bs vs true _ (HR.out.below ba) HG.out hM).mono ?_;rintro e w1 ⟨ga,rfl,-,hga,aM,o1⟩;simp only[aAZ]at hga aM o1;have T2:=T1.below aM (by omega);have aK:=ba.trans (aM.mono (by omega));have hs1:=aM.size;simp only[aAZ]at hs1;go_wp2_with fail;refine(Em R F gp cap ns bs vs false _ (HR.out.below aK) HG.out hM).mono ?_;rintro e w2 ⟨gb,rfl,-,Hz,ak,o2⟩;have T3:=T2.below ak (by omega);have aW:=hid (aK.trans (ak.mono (by omega)));have lm:=ak.size;have o1':=ae (bJ o1 (show w.heap.size+1<=w.heap.size+1 by omega)) ak;have o2':=bJ o2 (show w.heap.size+1<=w1.heap.size by omega);have FM:Ad w2 (w.heap.size+1) w.heap.size vs.length (.slice none 0 0) (.slice none 0 0) (.slice none 0 0) [] [] []:=⟨T3,by omega,rfl,rfl,aBh _ _ _ _,aBh _ _ _ _,λi p q h=>by simp at h⟩;clear ba T1 T2 T3 aK aM ak o1 o2;go_wp2_with fail;refine(Wx w2 (w.heap.size+1) w.heap.size vs.length _ _ _ [] [] [] ga gb _ _ FM (by omega) (by simp) (by omega) o1' o2').mono ?_;rintro e w3 ⟨j,vS3,vO3,rs3,fs3,anj,rfl,FM3,K3,arC,lL⟩;obtain⟨rfl,rfl,rfl,rfl,arR⟩:j=0/\rs3=[(ga,gb)]/\fs3=[[]].map (Ej ns vs)/\anj=ww ns aa [[]]/\True:=by
  rcases lL with⟨_,_,_,p,hp,_⟩ | ⟨rfl,rfl,rfl,rfl,_⟩
  ·simp at hp
  ·refine⟨rfl,rfl,rfl,?_,trivial⟩;have:=Nc HG.out uj.out HL.out (u:=[]) (λx hx=>by simp at hx);simp only[ww,List.map_cons,List.map_nil,List.nil_append,<-this];rfl
 have cu:=hid (Jw aW.out K3 (by omega) (aAU _) (λk h=>by simp[Value.ownBlock]at h) (λk h=>by simp[Value.ownBlock]at h));have FM3:=hid FM3;have vF:=K3.size;clear lL K3 arC FM o1' o2' aW arR;go_wp2_with fail
 go_loopw [6] (λi wq=>∃ (k:Nat) (us:List (List Nat)) (xs:List Nat) (vS vO vN:Value) (rs:List (Nat × Nat)) (V:Nat->Value),i=.int .i64 k/\k<=us.length/\xs.length=8*k/\rs.length=us.length/\Hid (jk ns aa (bu ns aa) us xs)/\Hid (Ad wq (w.heap.size+1) w.heap.size vs.length vS vO vN rs (us.map (Ej ns vs)) (ww ns aa us))/\Hid (iE wq (w.heap.size+1) 22 3 vN k V (λq=>aD (ll xs q)))/\Hid (∀ i,i<k->(V i).ownBlock≠vO.ownBlock)/\Hid (Below w.heap.size w wq)/\w.heap.size+1<=wq.heap.size) (λi _=>796594190 - (intOf i).toNat)
 case atStart=>exact⟨0,[[]],[],vS3,vO3,_,_,λ_=>.slice none 0 0,rfl,by simp,rfl,rfl,hid KF,FM3,hid (xz _ _ _ _ _ _),hid (λi h=>by omega),cu,by omega⟩
 case round=>
  obtain⟨k,us,xs,vS,vO,vN,rs,V,rfl,hk,zo,hrs,HE,HF,HN,HD,HB,hsz⟩:=hrel;rename World=>W0;clear cu FM3;have hfw:=yL.out us xs HE.out;have t0:=HF.out.t.c0;have wG:=HF.out.st;rw[hrs]at wG;obtain⟨wO,tV,rfl⟩:=ai wG;by_cases hlk:k<us.length
  ·obtain⟨u0,DI⟩:∃ u0,us[k]?=some u0:=⟨us[k],aAV hlk⟩;have tq:=hid DI;have Lf:=hid (λi (hi:i<k) q (h:(V i).ownBlock=some q)=>((HN.out.row i hi).lt q h).2);clear wG DI;go_wp2_with fail
   go_loopw [7,8] (λvL i wq=>∃ (l:Nat) (us:List (List Nat)) (xs:List Nat) (vS vO:Value) (rs:List (Nat × Nat)),i=.int .i64 l/\l<=8/\xs.length=8*k+l/\rs.length=us.length/\Hid (us[k]?=some u0)/\Hid (jk ns aa (bu ns aa) us xs)/\Hid (Ad wq (w.heap.size+1) w.heap.size vs.length vS vO vN rs (us.map (Ej ns vs)) (ww ns aa us))/\Hid (iE wq (w.heap.size+1) 22 3 vN k V (λq=>aD (ll xs q)))/\Hid (∀ i,i<k->(V i).ownBlock≠vO.ownBlock)/\Hid (wq.ownsRow W0.heap.size 3 1 vL l (aD (xs.drop (8*k))))/\Hid (vL.ownBlock=none\/vL.ownBlock≠vO.ownBlock)/\Hid (Below w.heap.size w wq)/\W0.heap.size<=wq.heap.size) (λ_ i _=>8 - (intOf i).toNat)
   case atStart=>exact⟨0,us,xs,_,_,rs,rfl,by omega,by omega,hrs,tq,HE,HF,HN,HD,by rw[List.drop_of_length_le (by omega)];exact hid (aBh _ _ _ _),hid (aA2 rfl),HB,aAU _⟩
   case round=>
    obtain⟨l,us,xs,vS,vO,rs,rfl,hl8,zo,hrs,tq,HE,HF,HN,HD,ui,HLO,HB,ma⟩:=hrel;rename World=>W3;clear t0;have wG:=HF.out.st;rw[hrs]at wG;obtain⟨ayu,ast,rfl⟩:=ai wG;by_cases jW:l<8
    ·have RU:=(aA1.1 tq.out).1;have hfw:=yL.out us xs HE.out;obtain⟨gS,rfl,hgS,akp,hcS⟩:=dX wG (by omega);obtain⟨⟨p1,p2⟩,hp⟩:∃ p,rs[k]?=some p:=⟨rs[k]'(by rw[hrs];exact RU),aAV (by rw[hrs];exact RU)⟩;have t0:=HF.out.t.c0;have y0:W3.cell? ⟨gS,k*2,none⟩=some (.slice (some ⟨p1,0,none⟩) vs.length vs.length):=by rw[wG.cellAt (k*2) (by omega),(xh hp).1]
     have y1:W3.cell? ⟨gS,k*2+1,none⟩=some (.slice (some ⟨p2,0,none⟩) vs.length vs.length):=by rw[wG.cellAt (k*2+1) (by omega),(xh hp).2]
     obtain⟨o1,o2⟩:=HF.out.row k (p1,p2) (Ej ns vs u0) hp (by rw[aBk,tq.out];rfl);dsimp only[Ej]at o1 o2;have tO:w.heap.size<W3.heap.size:=HF.out.t.lt;have al3:=hid (vo o1);have al2:=hid (vo o2);clear wG hp o1 o2;go_wp2_with fail;refine(Z0 R F gp cap p1 l ns bs vs (yr ns vs true u0) W3 (HR.out.below HB.out) HG.out hM jW al3.out).mono ?_;rintro e w4 ⟨gy,rfl,-,hgy,eH,o4⟩;have t04:=(eH.cell (p:=⟨w.heap.size,0,none⟩) tO).trans t0;have y14:=(eH.cell (p:=⟨gS,k*2+1,none⟩) akp).trans y1;have zu:=eH.size;have iN:=hid (HB.out.trans (eH.mono HB.out.size));have afh:=hid eH;have O4:=hid o4;clear y0 y1 t0 eH o4;go_wp2_with fail;refine(Z0 R F gp cap p2 l ns bs vs (yr ns vs false u0) w4 (HR.out.below iN.out) HG.out hM jW (al2.out.below afh.out)).mono ?_;rintro e w5 ⟨gn,rfl,-,E9,bV,o5⟩;have tL:=bV.size;have bb:=afh.out.trans (bV.mono zu);have F5:=HF.out.below bb;have N5:=HN.out.keeps bb;have L5:=ae ui.out bb;have iM:=iN.out.trans (bV.mono iN.out.size);have O45:=ae (bJ O4.out (show w.heap.size+1<=W3.heap.size by omega)) bV;have O55:=bJ o5 (show w.heap.size+1<=w4.heap.size by omega);have F5:=hid F5;have N5:=hid N5;have L5:=hid L5;have iM:=hid iM;have O45:=hid O45;have O55:=hid O55;clear bV o5 bb HF HN ui HB iN afh O4 al3 al2 t04 y14;have Be:xs.length / 8=k/\xs.length % 8=l:=by omega
     go_wp2_with fail;refine(Wx w5 (w.heap.size+1) w.heap.size vs.length _ _ _ rs _ _ gy gn _ _ F5.out (by omega) (by omega) (by omega) O45.out O55.out).mono ?_;rintro e w6 ⟨j,vS6,Vw,rs6,fs6,ani,rfl,FM6,K6,aeb,lL⟩;obtain⟨us6,⟨more,Kn⟩,hE6,rfl,rfl,arO⟩:=abW HG.out uj.out HL.out HE.out (u0:=u0) (by rw[Be.1];exact tq.out) (j:=j) (rs:=rs) (rs':=rs6) hrs (outs':=ani) (fs':=fs6) (by_:=gy) (bn:=gn) (by rw[Be.2];exact lL);have hu6:us6[k]?=some u0:=by rw[Kn,aA9 RU];exact tq.out
     have vNe:vN.ownBlock=none\/vN.ownBlock≠(Value.slice (some ⟨gS,0,none⟩) us.length ast).ownBlock:=by
      have h9:=F5.out.st;exact aC N5.out.out h9 (by decide)
     have vNo:vN.ownBlock=none\/vN.ownBlock≠vO.ownBlock:=aC N5.out.out F5.out.ou (by decide);have N6:=N5.out.kb K6 (by omega) vNe vNo (λi hi=>aC (N5.out.row i hi) F5.out.st (by decide)) (λi hi=>aA3 (HD.out i hi));have Sl:u7.ownBlock≠some w.heap.size:=λe=>by have:=(L5.out.lt _ e).1;omega
     have L6:=dI L5.out K6 Sl (aC L5.out F5.out.st (by decide)) HLO.out;have asi:=hid (λi (hi:i<k) q (h:(V i).ownBlock=some q)=>((N5.out.row i hi).lt q h).2);have D6:∀ i,i<k->(V i).ownBlock≠Vw.ownBlock:=λi hi e=>by
      rcases aeb with h | ⟨q,h,hq⟩
      ·exact HD.out i hi (by rw[e,h])
      ·rw[h]at e;have:=asi.out i hi q e;omega
     have LO6:u7.ownBlock=none\/u7.ownBlock≠Vw.ownBlock:=by
      rcases HLO.out with h | h
      ·exact aA2 h
      ·refine aA3 λe=>?_;rcases aeb with h2 | ⟨q,h2,hq⟩
       ·exact h (by rw[e,h2])
       ·rw[h2]at e;have:=(L5.out.lt q e).2;omega
     have kG:=hid (Jw iM.out K6 iM.out.size (aAU _) (λq h=>by have:=(F5.out.st.lt q h).1;omega) (λq h=>by have:=(F5.out.ou.lt q h).1;omega));have tK:=K6.size;have F6:=hid FM6;have N6:=hid N6;have L6:=hid L6;have D6:=hid D6;have LO6:=hid LO6;have HE6:=hid hE6;have HU6:=hid hu6;have hj6:j<us6.length:=by
      obtain⟨_,u1,_,h9,_⟩:=hE6.ok xs.length (by simp);rw[dN]at h9;exact(aA1.1 h9).1
     have ayb:=yL.out us6 _ hE6;clear FM6 K6 aeb lL hE6 hu6 F5 N5 L5 iM O45 O55 HD HLO vNe vNo HE tq Kn;obtain⟨dK,dJ,rfl⟩:=ai L6.out;have uk:=hid (λq h=>(L6.out.lt q h).1);go_wp2_with (at_builtin;go_must (refine aBw _ rfl (.tmp 63) (.tmp 65) 22 rfl W0.heap.size 3 i0 (.int .i64 0) 1 8 Tryz.underlying22 hi aR aP aN rfl (by decide) _ l (aD (xs.drop (8*k))) rfl (L6.out.alloc _) ⟨w6.heap.size,0,none⟩ 1 1 [.int .i64 (j:Nat)] rfl rfl (dx w6 [.int .i64 (j:Nat)] _) (by intro y hy;simp at hy;rcases hy with rfl;rfl) (by decide) (by unfold maxLen;omega) (by omega) (by simp;omega) (w6.heap.size+1) (by simp) ?_));intro gg cc w7 hown hgrow hat uD;have b6:=(aAW w6.heap.size w6).alloc (aAU _) (.cells #[.int .i64 (j:Nat)] 3);have vE:w6.heap.size<=w7.heap.size:=by
      have:=hgrow.size;simp at this;omega
     have akK:(Value.slice dK l dJ).ownBlock≠some w.heap.size:=Sl;have F7:=hid ((F6.out.below b6).grown (L6.out.alloc (.cells #[.int .i64 (j:Nat)] 3)) hgrow akK (by decide) (by decide) (by
      rcases LO6.out with h | h
      ·rw[h];cases Vw.ownBlock <;> simp
      ·exact aA3 λe=>h e.symm))
     have hVL:∀ i,i<k->(V i).ownBlock=none\/(V i).ownBlock≠(Value.slice dK l dJ).ownBlock:=λi hi=>by
      cases hv:(V i).ownBlock with
      | none=>exact aA2 rfl
      | some q=>
       refine aA3 λe=>?_;have h1:=uk.out q e.symm;have h2:=Lf.out i hi q hv;omega
     have N7:=((N6.out.keeps b6).CJ hgrow (aC (N6.out.keeps b6).out (L6.out.alloc (.cells #[.int .i64 (j:Nat)] 3)) (by decide)) hVL);have N7:Hid (iE w7 (w.heap.size+1) 22 3 vN k V (λq=>aD (ll (xs++[j]) q))):=hid ⟨N7.out,λi hi=>by
      rw[IY (by omega)];exact N7.row i hi⟩
     have L7:Hid (w7.ownsRow W0.heap.size 3 1 (.slice (some ⟨gg,0,none⟩) (l+1) cc) (l+1) (aD ((xs++[j]).drop (8*k)))):=hid (by
      rw[List.drop_append_of_le_length (by omega),show aD (xs.drop (8*k)++[j])=aD (xs.drop (8*k))++[.int .i64 (j:Nat)] by simp[aD]];exact hown)
     have LO7:Hid ((Value.slice (some ⟨gg,0,none⟩) (l+1) cc).ownBlock=none\/(Value.slice (some ⟨gg,0,none⟩) (l+1) cc).ownBlock≠Vw.ownBlock):=hid (aA3 λe=>by
      have e2:Vw.ownBlock=some gg:=e.symm;rcases hat with h | h
      ·rcases LO6.out with h2 | h2
       ·rw[h]at h2;cases h2
       ·exact h2 (by rw[h,e2])
      ·have:=(F6.out.ou.lt gg e2).2;omega)
     have iG:=hid ((kG.out.alloc (by omega) (.cells #[.int .i64 (j:Nat)] 3)).grown hgrow (by simp;omega) (λq h=>by have:=uk.out q h;omega));clear hown hgrow hat b6 F6 N6 L6 LO6 kG hVL akK Sl;go_wp2_with fail;go_roundw
     case rel=>exact⟨l+1,us6,xs++[j],vS6,Vw,rs6,by go_num,by omega,by rw[aA5,aBn];omega,arO,HU6,HE6,F7,N7,D6,L7,LO7,iG,by omega⟩
     case measure=>simp[intOf];omega
    ·obtain rfl:l=8:=by omega
     have RU:=(aA1.1 tq.out).1;have hfw:=yL.out us xs HE.out;have t2:=HF.out.t.c2;obtain⟨dK,dJ,rfl⟩:=ai ui.out;obtain⟨zU,zM,rfl⟩:=ai HN.out.out;have tO:w.heap.size<W3.heap.size:=HF.out.t.lt;have b6:=(aAW W3.heap.size W3).alloc (aAU _) (.cells #[.slice dK 8 dJ] 22);go_wp2_with (at_builtin;go_must (refine aBw _ rfl (.tmp 71) (.tmp 73) 23 rfl (w.heap.size+1) 22 i1 (.slice none 0 0) 1 24 Tryz.underlying23 iC fe eZ eY rfl (by decide) _ k ((List.range k).map V) rfl (HN.out.out.alloc _) ⟨W3.heap.size,0,none⟩ 1 1 [.slice dK 8 dJ] rfl rfl (dx W3 [.slice dK 8 dJ] _) (by intro y hy;simp at hy;rcases hy with rfl;rfl) (by decide) (by unfold maxLen;omega) (by omega) (by simp;omega) (W3.heap.size+1) (by simp) ?_));intro gg cc w7 hown hgrow hat uD;have vE:W3.heap.size<=w7.heap.size:=by
      have:=hgrow.size;simp at this;omega
     have tQ:(Value.slice zU k zM).ownBlock≠some w.heap.size:=λe=>by have:=(HN.out.out.lt _ e).1;omega
     have nN:gg≠w.heap.size:=by
      rcases hat with h | h
      ·exact λe=>tQ (by rw[<-e];exact h)
      ·omega
     have rJ:=(bJ ui.out (show w.heap.size+1<=W0.heap.size by omega)).alloc (.cells #[.slice dK 8 dJ] 22);have RJ:(aD (ll xs k)).length=8:=by rw[mD,xB]
     rw[IZ (by omega)]at rJ;have F7:=(HF.out.below b6).grown (HN.out.out.alloc (.cells #[.slice dK 8 dJ] 22)) hgrow tQ (by decide) (by decide) (aC (ae HF.out.ou b6) (HN.out.out.alloc (.cells #[.slice dK 8 dJ] 22)) (by decide));have N7:=oI (HN.out.keeps b6) (x:=.slice dK 8 dJ) (by rw[RJ];exact rJ) (by decide) hgrow hown;have q2:=F7.t.c2;have f2:=F7.t.fz 2 (by omega);have D1:=hid (F7.set2 (.slice (some ⟨gg,0,none⟩) (k+1) cc));have D2:=hid (N7.set (show w.heap.size<w.heap.size+1 by omega) 2 (.slice (some ⟨gg,0,none⟩) (k+1) cc));have D3:Hid (∀ i,i<k+1->((λi=>if i=k then Value.slice dK 8 dJ else V i) i).ownBlock≠vO.ownBlock):=hid (λi hi=>by
      by_cases c:i=k
      ·simp only[c,if_true];rcases HLO.out with h | h
       ·obtain⟨g9,h9,_⟩:=dX ui.out (by omega);subst h9;simp[Value.ownBlock]at h
       ·exact h
      ·simp only[c,if_false];exact HD.out i (by omega))
     have D4:=hid (((HB.out.alloc HB.out.size (.cells #[.slice dK 8 dJ] 22)).grown hgrow (by simp;omega) (λq h=>by have:=(HN.out.out.lt q h).1;omega)).setCell (p:=⟨w.heap.size,2,none⟩) (aAU _) (.slice (some ⟨gg,0,none⟩) (k+1) cc));clear hown hgrow hat b6 HF HN HB rJ F7 N7 tQ;go_wp2_with fail;go_roundw
     case rel=>exact⟨k+1,us,xs,_,vO,_,rs,_,by go_num,by omega,by omega,hrs,HE,D1,D2,D3,D4,by simp;omega⟩
     case measure=>simp[intOf];omega
  ·obtain rfl:k=us.length:=by omega
   have FR:=hid (show Hf W0 w.heap.size us.length (iJ ns aa (bu ns aa) us) (ll xs) from ⟨HF.out.t.lt,⟨_,_,t0⟩,⟨_,HF.out.t.c1,by
    rw[<-X9];refine AY (B:=w.heap.size+1) ?_;have h9:=HF.out.ou;rw[hrs]at h9;rw[show (ww ns aa us).length=us.length by simp[ww]];exact h9⟩,⟨_,HF.out.t.c2,LY HN.out⟩⟩)
   go_wp2_with fail;go_ret;exact⟨us,xs,rfl,HE.out,zo,FR.out,HB.out⟩
