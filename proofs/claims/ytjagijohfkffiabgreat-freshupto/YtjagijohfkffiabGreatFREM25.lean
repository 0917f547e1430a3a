import Derived.Test.YtjagijohfkffiabGreatFREM24
set_option maxHeartbeats 16000000
set_option maxRecDepth 100000
set_option linter.unusedSimpArgs false
namespace Go.Proofs.YtjagijohfkffiabGreat
open Go.RowKit
set_option linter.unusedVariables false
theorem alf(S:Nat->Bool)(n:Nat):dO n S (kP (zQ S n)):=λk hk=>(abS S n k hk).symm
theorem FD{ns:List Nd}{v:Nat}:xc ns v=true↔zJ ns (kP v)/\∃ x,x<8/\qy ns (kP v) x:=by
 unfold xc;rw[aBz,abq,List.any_eq_true];constructor
 ·rintro ⟨h,x,hx,hr⟩;exact⟨h,x,aBI.1 hx,qZ.1 hr⟩
 ·rintro ⟨h,x,hx,hr⟩;exact⟨h,x,aBI.2 hx,qZ.2 hr⟩
theorem JC{ns:List Nd}(hw:gZ ns):Hg ns (dQ ns (2 ^ ns.length)).length (bD (dQ ns (2 ^ ns.length))):=by
 have key:∀ i,i<(dQ ns (2 ^ ns.length)).length->xc ns (df (dQ ns (2 ^ ns.length)) i)=true:=λi hi=>(List.mem_filter.1 (mh hi)).2;refine⟨λi hi=>(FD.1 (key i hi)).1,λi hi=>(FD.1 (key i hi)).2,λS x hx hf hr=>?_⟩;have e:=alf S ns.length;have hm:zQ S ns.length∈dQ ns (2 ^ ns.length):=List.mem_filter.2 ⟨aBI.2 (TC S ns.length),FD.2 ⟨Dc hw e hf,x,hx,Cv e hr⟩⟩;obtain⟨i,hi,ei⟩:=xC hm;exact⟨i,hi,by unfold bD;rw[ei];exact e⟩
theorem Wz(ns:List Nd)(vs:List Nat):Ed vs.length (toS ns vs)=GX ns vs.length (bD vs):=by
 funext i j;apply propext;unfold Ed GX toS qX;rw[List.mem_filter,aBI,CY]
theorem aik(ns:List Nd)(vs:List Nat)(c:Nat):GN vs.length (toS ns vs) ns.length (wK ns vs) c↔xy (GX ns vs.length (bD vs)) (Qg ns (bD vs)) ns.length c:=by
 unfold GN;rw[Wz];exact Iff.rfl
theorem Qd{ns:List Nd}(hw:gZ ns){out:Nat->Bool}(h:∀ i,out i=true↔∃ c,c<(dQ ns (2 ^ ns.length)).length/\reach (Ed (dQ ns (2 ^ ns.length)).length (toS ns (dQ ns (2 ^ ns.length)))) i c/\GN (dQ ns (2 ^ ns.length)).length (toS ns (dQ ns (2 ^ ns.length))) ns.length (wK ns (dQ ns (2 ^ ns.length))) c)
  {i:Nat} (hi:i<(dQ ns (2 ^ ns.length)).length):out i=true↔chain ns [] (bD (dQ ns (2 ^ ns.length)) i):=by
 rw[h,aao hw (JC hw) hi,Wz];simp only[aik]
def iA(vs:List Nat)(good:Nat->Bool)(j:Nat):List Nat:=((List.range j).filter good).map (df vs)
theorem adx(vs:List Nat)(good:Nat->Bool)(j:Nat):(iA vs good j).length<=j:=by
 have:=List.length_filter_le good (List.range j);simpa [iA] using this
theorem aam{ns:List Nd}(hw:gZ ns){vs:List Nat}(hA:Hg ns vs.length (bD vs)){good:Nat->Bool}(hg:∀ i,i<vs.length->(good i=true↔chain ns [] (bD vs i))) :
  gB ns (iA vs good vs.length).length (bD (iA vs good vs.length)):=by
 refine⟨λi hi=>?_,λS hS=>?_⟩
 ·have hm:=mh hi;unfold iA at hm;obtain⟨q,hq,e⟩:=aBM.1 hm;obtain⟨hr,hgq⟩:=List.mem_filter.1 hq;have:=(hg q (aBI.1 hr)).1 hgq;unfold bD at this ⊢;rw[e]at this;exact this
 ·obtain⟨x,S',hl,he,hq⟩:=hS;obtain⟨f1,f2,_⟩:=(kg hw _ _ _).1 (he.step 0);obtain⟨i,hi,e⟩:=hA.all S (x 0) (hl 0) (Dc hw hq f1) (Cv hq f2);have zD:=(hg i hi).2 (Ar hw e ⟨x,S',hl,he,hq⟩);have hm:df vs i∈iA vs good vs.length:=aBM.2 ⟨i,List.mem_filter.2 ⟨aBI.2 hi,zD⟩,rfl⟩;obtain⟨k,hk,ek⟩:=xC hm;refine⟨k,hk,?_⟩;unfold bD at e ⊢;rw[ek];exact e
def Bv(ns:List Nd)(vs:List Nat):List Nat->(Nat->Bool)->Nat->Bool
 | [],f=>f
 | a::u,f=>Bv ns vs u (iK ns vs f a vs.length)
theorem ajc(ns:List Nd)(vs:List Nat)(f:Nat->Bool)(a j:Nat):iK ns vs f a vs.length j=true↔NG ns vs.length (bD vs) (λi=>i<vs.length/\f i=true) a j:=by
 unfold iK NG;rw[List.any_eq_true];constructor
 ·rintro ⟨q,hq,h⟩;simp only[aBz,aBR]at h;obtain⟨⟨h1,h2⟩,h3⟩:=h;unfold toS qX at h3;rw[List.mem_filter,aBI,CY]at h3;have hq:=aBI.1 hq;exact⟨h3.1,q,hq,⟨hq,h1⟩,qZ.1 h2,h3.2⟩
 ·rintro ⟨hj,q,hq,h1,h2,h3⟩;refine⟨q,aBI.2 hq,?_⟩;simp only[aBz,aBR];refine⟨⟨h1.2,qZ.2 h2⟩,?_⟩;unfold toS qX;rw[List.mem_filter,aBI,CY];exact⟨hj,h3⟩
theorem KR(ns:List Nd)(vs:List Nat):∀ (u:List Nat) (f:Nat->Bool) (j:Nat),j<vs.length/\Bv ns vs u f j=true↔sS ns vs.length (bD vs) u (λi=>i<vs.length/\f i=true) j
 | [],f,j=>Iff.rfl
 | a::u,f,j=>by
  show j<vs.length/\Bv ns vs u (iK ns vs f a vs.length) j=true↔sS ns vs.length (bD vs) u (NG ns vs.length (bD vs) (λi=>i<vs.length/\f i=true) a) j;rw[KR ns vs u];have e:(λi=>i<vs.length/\iK ns vs f a vs.length i=true)=NG ns vs.length (bD vs) (λi=>i<vs.length/\f i=true) a:=by
   funext i;apply propext;rw[ajc];exact⟨λh=>h.2,λh=>⟨h.1,h⟩⟩
  rw[e]
theorem Q8{ns:List Nd}(hg:Good ns){vs:List Nat}(hL:gB ns vs.length (bD vs))(u:List Nat)(hu:∀ x∈u,x<8)(b:Bool) :
  ja (Bv ns vs u (λi=>bD vs i (ns.length - 1)==b)) vs.length=false↔May ns u b:=by
 rw[<-Qy hg hL u hu b];have e:(λi=>i<vs.length/\bD vs i (ns.length - 1)=b)=(λi=>i<vs.length/\(bD vs i (ns.length - 1)==b)=true):=by
  funext i;rw[beq_iff_eq]
 rw[e];rw[<-Bool.not_eq_true,EB];constructor
 ·intro h;apply aBp;intro hn;refine h (λi hi=>?_);cases hv:Bv ns vs u (λi=>bD vs i (ns.length - 1)==b) i with
  | false=>rfl
  | true=>exact absurd ⟨i,(KR ns vs u _ i).1 ⟨hi,hv⟩⟩ hn
 ·rintro ⟨j,hj⟩ hall;have:=(KR ns vs u _ j).2 hj;rw[hall j this.1]at this;cases this.2
theorem Il(ns:List Nd)(M:Nat)(m:Nat->Nat->Bool)(a:Nat):∀ (u:List Nat) (P:Nat->Prop) (j:Nat),sS ns M m (u++[a]) P j↔NG ns M m (sS ns M m u P) a j
 | [],P,j=>Iff.rfl
 | x::u,P,j=>Il ns M m a u (NG ns M m P x) j
theorem ab3{ns:List Nd}(hg:Good ns){M:Nat}{m:Nat->Nat->Bool}(hL:gB ns M m)(b:Bool):∀ (n:Nat) (u:List Nat),u.length=n->(∀ x∈u,x<8)->∀ j,j<M ->
  (sS ns M m u (λi=>i<M/\m i (ns.length - 1)=b) j↔(back ns u (eP (m j) ns.length)).testBit (ns.length - 1)=b):=by
 have hp:=hg.pos;intro n
 induction n with
 | zero=>
  intro u hu _ j hj;obtain rfl:=List.eq_nil_of_length_eq_zero hu;have e:(eP (m j) ns.length).testBit (ns.length - 1)=m j (ns.length - 1):=kU hg (m j) _ (by omega);show (j<M/\m j (ns.length - 1)=b)↔(eP (m j) ns.length).testBit (ns.length - 1)=b;rw[e];exact⟨λh=>h.2,λh=>⟨hj,h⟩⟩
 | succ n ih=>
  intro u hu h8 j hj;obtain⟨u',a,rfl⟩:∃ u' a,u=u'++[a]:=⟨u.dropLast,u.getLast (by intro e;rw[e]at hu;simp at hu),(List.dropLast_concat_getLast _).symm⟩;have hu':u'.length=n:=by simpa using hu
  have ha:=h8 a (by simp);have h8':∀ x∈u',x<8:=λx hx=>h8 x (by simp[hx]);rw[Il,Pk];constructor
  ·rintro ⟨_,i,hi,hP,hr,hf⟩;have hst:Step ns a (m i) (m j):=(kg hg.wf a _ _).2 ⟨Df hg.wf (hL.live i hi),hr,hf⟩;rw[ih u' hu' h8' i hi,<-Bu hg hst (kU hg _)]at hP;exact hP
  ·intro hb;have lj:=Aq hg (hL.live j hj);have lb:=Aj hg (NI ha lj (uH _ _ hg.le));obtain⟨i,hi,he⟩:=hL.all _ lb;have hst:Step ns a (m i) (m j):=Cm hg.wf he (kU hg _) (lc hg a (eP (m j) ns.length));obtain⟨_,hr,hf⟩:=(kg hg.wf a _ _).1 hst;refine⟨hj,i,hi,?_,hr,hf⟩;rw[ih u' hu' h8' i hi,<-Bu hg hst (kU hg _)];exact hb
theorem KT{ns:List Nd}(hg:Good ns){vs:List Nat}(hL:gB ns vs.length (bD vs)){u:List Nat}(hu:∀ x∈u,x<8)(hd:Bool){j:Nat}(hj:j<vs.length) :
  Bv ns vs u (λi=>bD vs i (ns.length - 1)==hd) j=((back ns u (eP (bD vs j) ns.length)).testBit (ns.length - 1)==hd):=by
 have h1:=KR ns vs u (λi=>bD vs i (ns.length - 1)==hd) j;have h2:=ab3 hg hL hd u.length u rfl hu j hj;rw[Bool.eq_iff_iff,beq_iff_eq,<-h2];have e:(λi=>i<vs.length/\(bD vs i (ns.length - 1)==hd)=true)=λi=>i<vs.length/\bD vs i (ns.length - 1)=hd:=by funext i;simp
 rw[e]at h1;rw[<-h1];exact⟨λh=>⟨hj,h⟩,λh=>h.2⟩
theorem ajp(ns:List Nd)(cs:List (Nat->Bool)):∃ aa,jQ ns cs aa:=⟨λv=>@decide _ (Classical.propDecidable (iI (Ew 1 ns (fD 8)) (spreads cs) v)),λv=>by simp⟩
structure Ua (to:Nat->List Nat) (i k:Nat) (tl:Nat->List Nat):Prop where
 mem:∀ j a,a∈tl j↔(a<i/\j∈to a)\/(a=i/\j∈(to i).take k)
 len:∀ j,(tl j).length<=8*i+((to i).take k).count j
def Qv(f:Nat->List Nat)(b:Nat)(l:List Nat):Nat->List Nat:=λi=>if i=b then l else f i
theorem acT(to:Nat->List Nat):Ua to 0 0 (λ_=>[]):=⟨λj a=>by simp,λj=>by simp⟩
theorem ahf{to:Nat->List Nat}{i k:Nat}{tl:Nat->List Nat}(h:Ua to i k tl)(hk:k<(to i).length):Ua to i (k+1) (Qv tl (df (to i) k) (tl (df (to i) k)++[i])):=by
 have e:(to i).take (k+1)=(to i).take k++[df (to i) k]:=by
  rw[List.take_succ_eq_append_getElem hk];simp[df,List.getD,aAV hk]
 refine⟨λj a=>?_,λj=>?_⟩
 ·rw[e];unfold Qv;by_cases ej:j=df (to i) k
  ·rw[aBU ej,aBy,<-ej,h.mem];simp only[List.mem_singleton,aBy];constructor
   ·rintro ((h1 | h1) | h1)
    ·exact aA2 h1
    ·exact aA3 ⟨h1.1,aA2 h1.2⟩
    ·exact aA3 ⟨h1,aA3 trivial⟩
   ·rintro (h1 | ⟨h1,h2 | h2⟩)
    ·exact aA2 (aA2 h1)
    ·exact aA2 (aA3 ⟨h1,h2⟩)
    ·exact aA3 h1
  ·rw[aBT ej,h.mem];simp only[aBy,List.mem_singleton,ej,or_false]
 ·rw[e,List.count_append];have:=h.len j;unfold Qv;by_cases ej:j=df (to i) k
  ·rw[aBU ej,aA5,aBn,<-ej];simp only[List.count_singleton,beq_self_eq_true,if_true];omega
  ·rw[aBT ej];omega
theorem ahg{to:Nat->List Nat}{i:Nat}{tl:Nat->List Nat}(h:Ua to i (to i).length tl)(hc:∀ j,(to i).count j<=8):Ua to (i+1) 0 tl:=by
 refine⟨λj a=>?_,λj=>?_⟩
 ·rw[h.mem,List.take_length];simp only[List.take_zero,List.not_mem_nil,and_false,or_false];constructor
  ·rintro (⟨h1,h2⟩ | ⟨rfl,h2⟩)
   ·exact⟨by omega,h2⟩
   ·exact⟨by omega,h2⟩
  ·rintro ⟨h1,h2⟩;by_cases e:a=i
   ·subst e;exact aA3 ⟨rfl,h2⟩
   ·exact aA2 ⟨by omega,h2⟩
 ·have h1:=h.len j;rw[List.take_length]at h1;have:=hc j;simp;omega
structure Im (w:World) (B0 B g2 N:Nat) (V:Nat->Value) (tl:Nat->List Nat):Prop where
 out:w.ownsRow B0 22 1 (.slice (some ⟨g2,0,none⟩) N N) N ((List.range N).map V)
 row:∀ j,j<N->w.ownsRow B 3 1 (V j) (tl j).length (aD (tl j))
 sep:∀ i j,i<N->j<N->i≠j->(V i).ownBlock=none\/(V i).ownBlock≠(V j).ownBlock
theorem Im.keeps{w w':World}{B0 B g2 N:Nat}{V:Nat->Value}{tl:Nat->List Nat}(h:Im w B0 B g2 N V tl)(hb:Below w.heap.size w w'):Im w' B0 B g2 N V tl:=⟨ae h.out hb,λj hj=>ae (h.row j hj) hb,h.sep⟩
theorem ZW(V:Nat->Value)(N b:Nat)(x:Value):((List.range N).map V).set b x=(List.range N).map (λi=>if i=b then x else V i):=by
 apply List.ext_getElem
 ·simp
 ·intro i h1 h2;simp at h1;rw[List.getElem_set];simp only[List.getElem_map,List.getElem_range];by_cases e:b=i
  ·rw[aBU e,aBU e.symm]
  ·rw[aBT e,aBT (λh=>e h.symm)]
theorem QA{w w1:World}{B0 B g2 N:Nat}{V:Nat->Value}{tl:Nat->List Nat}(h:Im w B0 B g2 N V tl){b a gg cc:Nat}(hb:b<N)(hgrow:w.grownBy w1 (V b).ownBlock)
  (hown:w1.ownsRow B 3 1 (.slice (some ⟨gg,0,none⟩) ((tl b).length+1) cc) ((tl b).length+1) (aD (tl b)++[.int .i64 (a:Nat)])) (hat:(V b).ownBlock=some gg\/gg=w.heap.size) :
  Im (w1.setCell ⟨g2,b,none⟩ (.slice (some ⟨gg,0,none⟩) ((tl b).length+1) cc)) B0 B g2 N (λi=>if i=b then .slice (some ⟨gg,0,none⟩) ((tl b).length+1) cc else V i) (Qv tl b (tl b++[a])):=by
 have key:∀ j,j<N->j≠b->(V j).ownBlock=none\/(V j).ownBlock≠some gg:=by
  intro j hj hne;rcases hat with e | e
  ·rw[<-e];exact h.sep j b hj hb hne
  ·cases ho:(V j).ownBlock with
   | none=>exact aA2 rfl
   | some q=>
    have:=((h.row j hj).lt q ho).2;exact aA3 (λe2=>by cases e2;omega)
 have ho1:=h.out.kept hgrow (aC h.out (h.row b hb) (by decide));have Am:=ho1.stored b (.slice (some ⟨gg,0,none⟩) ((tl b).length+1) cc);rw[ZW]at Am;have hne:∀ (v:Value) (n:Nat) (xs:List Value),w1.ownsRow B 3 1 v n xs->(w1.setCell ⟨g2,b,none⟩ (.slice (some ⟨gg,0,none⟩) ((tl b).length+1) cc)).ownsRow B 3 1 v n xs:=by
  intro v n xs hv;exact hv.kept Am.2 (aC hv ho1 (by decide))
 refine⟨Am.1,λj hj=>?_,λi j hi hj hij=>?_⟩
 ·unfold Qv;by_cases e:j=b
  ·subst e;simp only[if_true];have:=hne _ _ _ hown;rw[show aD (tl j)++[.int .i64 (a:Nat)]=aD (tl j++[a]) by simp[aD]]at this;rw[aA5,aBn];exact this
  ·simp only[aBT e];exact hne _ _ _ ((h.row j hj).kept hgrow (h.sep j b hj hb e))
 ·by_cases e1:i=b
  ·have e2:j≠b:=λe=>hij (e1.trans e.symm);simp only[aBU e1,aBT e2]
   right
   intro e;rcases key j hj e2 with k | k
   ·rw[k]at e;simp[Value.ownBlock]at e
   ·exact k e.symm
  ·by_cases e2:j=b
   ·simp only[aBT e1,aBU e2];exact key i hi e1
   ·simp only[aBT e1,aBT e2];exact h.sep i j hi hj hij
