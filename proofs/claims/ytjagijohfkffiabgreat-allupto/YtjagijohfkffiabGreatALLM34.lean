import Derived.Test.YtjagijohfkffiabGreatALLM18
import Derived.Test.YtjagijohfkffiabGreatALLM19
import Derived.Test.YtjagijohfkffiabGreatALLM21
import Derived.Test.YtjagijohfkffiabGreatALLM31
import Derived.Test.YtjagijohfkffiabGreatALLM33
set_option maxHeartbeats 16000000
set_option maxRecDepth 100000
namespace Go.Proofs.YtjagijohfkffiabGreat
set_option linter.unusedVariables false
theorem Dy (ns:List Nd) (M:Nat) (m:Nat→Nat→Bool) (a:Nat):∀ (u:List Nat) (P:Nat→Prop) (j:Nat),rO ns M m (u++[a]) P j↔JI ns M m (rO ns M m u P) a j
 | [],P,j=>Iff.rfl
 | x::u,P,j=>Dy ns M m a u (JI ns M m P x) j
theorem XW {ns:List Nd} (hg:Good ns) {M:Nat} {m:Nat→Nat→Bool} (hL:eQ ns M m) (b:Bool):∀ (n:Nat) (u:List Nat),u.length=n→(∀ x∈u,x<8)→∀ j,j<M →
  (rO ns M m u (fun i=>i<M∧m i (ns.length - 1)=b) j↔(back ns u (bY (m j) ns.length)).testBit (ns.length - 1)=b):=by
 have hp:=hg.pos
 intro n
 induction n with
 | zero=>
  intro u hu _ j hj
  obtain rfl:=List.eq_nil_of_length_eq_zero hu
  have e:(bY (m j) ns.length).testBit (ns.length - 1)=m j (ns.length - 1):=iA hg (m j) _ (by omega)
  show (j<M∧m j (ns.length - 1)=b)↔(bY (m j) ns.length).testBit (ns.length - 1)=b
  rw [e]
  exact ⟨fun h=>h.2,fun h=>⟨hj,h⟩⟩
 | succ n ih=>
  intro u hu h8 j hj
  obtain ⟨u',a,rfl⟩:∃ u' a,u=u'++[a]:=⟨u.dropLast,u.getLast (by intro e;rw [e] at hu;simp at hu),(List.dropLast_concat_getLast _).symm⟩
  have hu':u'.length=n:=by simpa using hu
  have ha:=h8 a (by simp)
  have h8':∀ x∈u',x<8:=fun x hx=>h8 x (by simp [hx])
  rw [Dy,Ky]
  constructor
  ·rintro ⟨_,i,hi,hP,hr,hf⟩
   have hst:Step ns a (m i) (m j):=(jF hg.wf a _ _).2 ⟨Ai hg.wf (hL.live i hi),hr,hf⟩
   rw [ih u' hu' h8' i hi,←wQ hg hst (iA hg _)] at hP
   exact hP
  ·intro hb
   have lj:=tO hg (hL.live j hj)
   have lb:=xY hg (JM ha lj (qK _ _ hg.le))
   obtain ⟨i,hi,he⟩:=hL.all _ lb
   have hst:Step ns a (m i) (m j):=zw hg.wf he (iA hg _) (jd hg a (bY (m j) ns.length))
   obtain ⟨_,hr,hf⟩:=(jF hg.wf a _ _).1 hst
   refine ⟨hj,i,hi,?_,hr,hf⟩
   rw [ih u' hu' h8' i hi,←wQ hg hst (iA hg _)]
   exact hb
theorem Gw {ns:List Nd} (hg:Good ns) {vs:List Nat} (hL:eQ ns vs.length (aJ vs)) {u:List Nat} (hu:∀ x∈u,x<8) (hd:Bool) {j:Nat} (hj:j<vs.length) :
  wT ns vs u (fun i=>aJ vs i (ns.length - 1)==hd) j=((back ns u (bY (aJ vs j) ns.length)).testBit (ns.length - 1)==hd):=by
 have h1:=Gv ns vs u (fun i=>aJ vs i (ns.length - 1)==hd) j
 have h2:=XW hg hL hd u.length u rfl hu j hj
 rw [Bool.eq_iff_iff,beq_iff_eq,←h2]
 have e:(fun i=>i<vs.length∧(aJ vs i (ns.length - 1)==hd)=true)=fun i=>i<vs.length∧aJ vs i (ns.length - 1)=hd:=by funext i;simp
 rw [e] at h1
 rw [←h1]
 exact ⟨fun h=>⟨hj,h⟩,fun h=>h.2⟩
theorem Wj (ns:List Nd) (cs:List (Nat→Bool)):∃ aa,gW ns cs aa:=⟨fun v=>@decide _ (Classical.propDecidable (gu (Ew 1 ns (d9 8)) (spreads cs) v)),fun v=>by simp⟩
theorem ZM {ns:List Nd} (hg:Good ns) {v:Nat} (h:rV ns v):bY (tb v) ns.length=v:=by
 obtain ⟨q,h0,hq,_⟩:=h
 obtain ⟨_,l,_,e⟩:=wN.1 (hq 0)
 rw [h0] at e
 have h1:=jd hg l (q 1)
 have h2:=wQ hg h1 (dh.refl _ _)
 rw [←e] at h2
 exact h2.symm
def yr (ns:List Nd) (vs:List Nat) (hd:Bool) (u:List Nat):Nat→Bool:=wT ns vs u (fun i=>aJ vs i (ns.length - 1)==hd)
theorem CG (ns:List Nd) (vs:List Nat) (hd:Bool) (u:List Nat) (a:Nat):yr ns vs hd (u++[a])=gD ns vs (yr ns vs hd u) a vs.length:=EP ns vs u _ a
theorem Zk {ns:List Nd} (hg:Good ns) {aa:Nat→Bool} (hl:gW ns (aI ns ns.length) aa) {vs:List Nat} (hL:eQ ns vs.length (aJ vs)) {u v:List Nat} (hu:∀ x∈u,x<8) (hv:∀ x∈v,x<8) (b:Bool) :
  (∀ j,j<vs.length→yr ns vs b u j=yr ns vs b v j)↔geq (cZ ns aa (aB ns aa) u) (cZ ns aa (aB ns aa) v)=true:=by
 constructor
 ·intro h
  refine iN.2 fun N hN=>?_
  rw [Bool.eq_iff_iff,mh hg hl u hu,mh hg hl v hv]
  cases e:aa N with
  | false=>simp
  | true=>
   have lN:=(hl N).1 e
   obtain ⟨i,hi,he⟩:=hL.all _ (xY hg lN)
   have hc:bY (aJ vs i) ns.length=N:=by rw [←ZM hg lN];exact (Aj _ he).symm
   have h1:=h i hi
   unfold yr at h1
   rw [Gw hg hL hu b hi,Gw hg hL hv b hi,hc] at h1
   cases e1:(back ns u N).testBit (ns.length - 1) <;> cases e2:(back ns v N).testBit (ns.length - 1) <;> rw [e1,e2] at h1 <;> cases b <;> simp_all
 ·intro h j hj
  unfold yr
  have lj:=tO hg (hL.live j hj)
  have h1:=iN.1 h _ (qK (aJ vs j) _ hg.le)
  rw [Bool.eq_iff_iff,mh hg hl u hu,mh hg hl v hv] at h1
  have h2:=(hl _).2 lj
  simp only [h2,true_and] at h1
  rw [Gw hg hL hu b hj,Gw hg hL hv b hj,Bool.eq_iff_iff.2 h1]
theorem Bj {ns:List Nd} (hg:Good ns) {aa:Nat→Bool} (hl:gW ns (aI ns ns.length) aa) {vs:List Nat} (hL:eQ ns vs.length (aJ vs)) {u v:List Nat} {a:Nat} (ha:a<8) (hu:∀ x∈u,x<8) (hv:∀ x∈v,x<8) (b:Bool) :
  (∀ j,j<vs.length→yr ns vs b u j=gD ns vs (yr ns vs b v) a vs.length j)↔geq (cZ ns aa (aB ns aa) u) (stepG ns aa (cZ ns aa (aB ns aa) v) a)=true:=by
 rw [←CG,←nR]
 refine Zk hg hl hL hu (fun x hx=>?_) b
 rcases List.mem_append.1 hx with hx | hx
 ·exact hv x hx
 ·simp at hx;omega
theorem Jj {ns:List Nd} (hg:Good ns) {aa:Nat→Bool} (hl:gW ns (aI ns ns.length) aa) {vs:List Nat} (hL:eQ ns vs.length (aJ vs)) {u:List Nat} (hu:∀ x∈u,x<8) :
  zt (iF (yr ns vs true u) vs.length) (iF (yr ns vs false u) vs.length)=oJ aa (cZ ns aa (aB ns aa) u):=
 jW (QB hg hL u hu) (mP hg hl hu)
/-! ### Places: a spot and a set -/
theorem tK {K M k i:Nat} (hk:k<K) (hi:i<M):k*M+i<K*M:=by
 have h1:(k+1)*M≤K*M:=Nat.mul_le_mul_right _ hk
 rw [Nat.succ_mul] at h1
 omega
theorem qZ {M k i:Nat} (hi:i<M):(k*M+i) % M=i:=by rw [Nat.mul_add_mod'];exact Nat.mod_eq_of_lt hi
theorem Br {M k i:Nat} (hi:i<M):(k*M+i) / M=k:=by
 rw [Nat.add_comm,Nat.add_mul_div_right _ _ (by omega),Nat.div_eq_of_lt hi,Nat.zero_add]
theorem MG {K M x:Nat} (hx:x<K*M):∃ k i,k<K∧i<M∧x=k*M+i:=by
 have h0:0<M:=by
  rcases Nat.eq_zero_or_pos M with rfl | h
  ·simp at hx
  ·exact h
 refine ⟨x / M,x % M,Nat.div_lt_of_lt_mul (by rw [Nat.mul_comm];exact hx),Nat.mod_lt _ h0,?_⟩
 rw [Nat.mul_comm];exact (Nat.div_add_mod x M).symm
def X7 (K:Nat) (Mv:Nat→Nat→Nat→Prop) (x sp:Nat→Nat):Prop:=∀ t,sp t<K∧Mv (sp t) (x t) (sp (t+1))
structure Gz (ns:List Nd) (vs:List Nat) (K:Nat) (Mv:Nat→Nat→Nat→Prop) (to:Nat→List Nat) (kp:Nat→Nat→Bool):Prop where
 mem:∀ k i,k<K→i<vs.length→∀ b,b∈to (k*vs.length+i)↔∃ a k' j,a<8∧k'<K∧Mv k a k'∧pV ns (aJ vs i) a∧j∈toS ns vs i∧b=k'*vs.length+j
 kept:∀ p k i,p<ns.length→k<K→i<vs.length→kp p (k*vs.length+i)=uH ns vs p i
theorem Io {ns:List Nd} {vs:List Nat} {i j:Nat}:j∈toS ns vs i↔j<vs.length∧zZ ns (aJ vs i) (aJ vs j):=by
 unfold toS qw
 rw [List.mem_filter,List.mem_range,z8]
theorem Il {ns:List Nd} {vs:List Nat} {K:Nat} {Mv:Nat→Nat→Nat→Prop} {to:Nat→List Nat} {kp:Nat→Nat→Bool} (h:Gz ns vs K Mv to kp) {a b:Nat} (ha:a<K*vs.length) (hb:b∈to a):b<K*vs.length:=by
 obtain ⟨k,i,hk,hi,rfl⟩:=MG ha
 obtain ⟨_,k',j,_,h1,_,_,h2,rfl⟩:=(h.mem k i hk hi b).1 hb
 exact tK h1 (Io.1 h2).1
theorem Kn {ns:List Nd} {x:Nat→Nat} {S:Nat→Nat→Bool} (hL:dM x) (h:uC ns x S) (t:Nat):chain ns [] (S t):=by
 refine ⟨fun i=>x (t+i),fun i=>S (t+i),fun i=>hL _,⟨fun i=>h.step (t+i),fun k nd hn i=>?_⟩,dh.refl _ _⟩
 obtain ⟨t',h1,h2⟩:=h.kept k nd hn (t+i)
 exact ⟨t' - t,by omega,by show fD nd k (S (t+(t' - t)))=true;rw [show t+(t' - t)=t' by omega];exact h2⟩
theorem JB {ns:List Nd} (hg:Good ns) {vs:List Nat} (hL:eQ ns vs.length (aJ vs)) {K:Nat} {Mv:Nat→Nat→Nat→Prop} {to:Nat→List Nat} {kp:Nat→Nat→Bool} (h:Gz ns vs K Mv to kp) {k i:Nat} (hk:k<K) (hi:i<vs.length) :
  (∃ c,c<K*vs.length∧reach (Ed (K*vs.length) to) (k*vs.length+i) c∧GN (K*vs.length) to ns.length kp c)↔∃ x sp S,dM x∧sp 0=k∧X7 K Mv x sp∧uC ns x S∧dh ns.length (S 0) (aJ vs i):=by
 have hw:=hg.wf
 have ei:=yl (E:=Ed (K*vs.length) to) (K:=fun p i=>kp p i=true) (m:=ns.length) (n:=K*vs.length) (a:=k*vs.length+i) (fun a b hab=>Il h hab.1 hab.2) (tK hk hi)
 unfold GN
 rw [←ei]
 constructor
 ·rintro ⟨q,q0,hq,hm⟩
  have pt:∀ t,∃ k' i',k'<K∧i'<vs.length∧q t=k'*vs.length+i':=fun t=>MG (hq t).1
  let sp:Nat→Nat:=fun t=>q t / vs.length
  let si:Nat→Nat:=fun t=>q t % vs.length
  have hs:∀ t,sp t<K∧si t<vs.length∧q t=sp t*vs.length+si t:=fun t=>by
   obtain ⟨k',i',h1,h2,e⟩:=pt t
   have e1:sp t=k':=by show q t / vs.length=k';rw [e,Br h2]
   have e2:si t=i':=by show q t % vs.length=i';rw [e,qZ h2]
   rw [e1,e2]
   exact ⟨h1,h2,e⟩
  have mv:∀ t,∃ a,a<8∧Mv (sp t) a (sp (t+1))∧pV ns (aJ vs (si t)) a∧zZ ns (aJ vs (si t)) (aJ vs (si (t+1))):=fun t=>by
   obtain ⟨h1,h2,e⟩:=hs t
   obtain ⟨h3,h4,e'⟩:=hs (t+1)
   have hb:=(hq t).2
   rw [e] at hb
   obtain ⟨a,k',j,ha,hk',hm',hr,hj,eb⟩:=(h.mem _ _ h1 h2 _).1 hb
   obtain ⟨hj1,hj2⟩:=Io.1 hj
   have e1:sp (t+1)=k':=by show q (t+1) / vs.length=k';rw [eb,Br hj1]
   have e2:si (t+1)=j:=by show q (t+1) % vs.length=j;rw [eb,qZ hj1]
   rw [e1,e2]
   exact ⟨a,ha,hm',hr,hj2⟩
  let x:Nat→Nat:=fun t=>Classical.choose (mv t)
  have hx:∀ t,x t<8∧Mv (sp t) (x t) (sp (t+1))∧pV ns (aJ vs (si t)) (x t)∧zZ ns (aJ vs (si t)) (aJ vs (si (t+1))):=fun t=>Classical.choose_spec (mv t)
  refine ⟨x,sp,fun t=>aJ vs (si t),fun t=>(hx t).1,by show q 0 / vs.length=k;rw [q0,Br hi],fun t=>⟨(hs t).1,(hx t).2.1⟩,⟨fun t=>?_,fun p nd hn t=>?_⟩,by
   show dh _ (aJ vs (q 0 % vs.length)) _
   rw [q0,qZ hi]
   exact dh.refl _ _⟩
  ·exact (jF hw _ _ _).2 ⟨Ai hw (hL.live _ (hs t).2.1),(hx t).2.2.1,(hx t).2.2.2⟩
  ·obtain ⟨hp,e⟩:=Im hn
   subst e
   obtain ⟨t',h1,h2⟩:=hm p hp t
   refine ⟨t',h1,?_⟩
   obtain ⟨h3,h4,e⟩:=hs t'
   rw [e,h.kept p _ _ hp h3 h4] at h2
   exact h2
 ·rintro ⟨x,sp,S,hx,s0,hm,hR,he⟩
  have ex:∀ t,∃ j,j<vs.length∧dh ns.length (S t) (aJ vs j):=fun t=>hL.all _ (Kn hx hR t)
  let si:Nat→Nat:=fun t=>if t=0 then i else Classical.choose (ex t)
  have hs:∀ t,si t<vs.length∧dh ns.length (S t) (aJ vs (si t)):=fun t=>by
   by_cases e:t=0
   ·subst e;exact ⟨hi,he⟩
   ·have e2:si t=Classical.choose (ex t):=if_neg e
    rw [e2];exact Classical.choose_spec (ex t)
  refine ⟨fun t=>sp t*vs.length+si t,by show sp 0*vs.length+i=_;rw [s0],fun t=>⟨tK (hm t).1 (hs t).1,?_⟩,fun p hp t=>?_⟩
  ·obtain ⟨_,f2,f3⟩:=(jF hw (x t) (S t) (S (t+1))).1 (hR.step t)
   exact (h.mem _ _ (hm t).1 (hs t).1 _).2 ⟨x t,sp (t+1),si (t+1),hx t,(hm (t+1)).1,(hm t).2,zH (hs t).2 f2,Io.2 ⟨(hs (t+1)).1,BU hw (hs t).2 (hs (t+1)).2 f3⟩,rfl⟩
  ·obtain ⟨t',h1,h2⟩:=hR.kept p _ (iO hp) t
   refine ⟨t',h1,?_⟩
   show kp p (sp t'*vs.length+si t')=true
   rw [h.kept p _ _ hp (hm t').1 (hs t').1]
   unfold uH
   rw [←F9 hw (hs t').2 hp]
   exact h2
theorem zJ {ns:List Nd} (hg:Good ns) {vs:List Nat} (hL:eQ ns vs.length (aJ vs)) {K:Nat} {Mv:Nat→Nat→Nat→Prop} {to:Nat→List Nat} {kp:Nat→Nat→Bool} (h:Gz ns vs K Mv to kp) {good:Nat→Bool} (hgd:∀ x,good x=true↔∃ c,c<K*vs.length∧reach (Ed (K*vs.length) to) x c∧GN (K*vs.length) to ns.length kp c) {k:Nat} (hk:k<K) (hd:Bool) :
  (∃ i,i<vs.length∧aJ vs i (ns.length - 1)=hd∧good (k*vs.length+i)=true)↔∃ x sp,dM x∧sp 0=k∧X7 K Mv x sp∧(dz (fun i=>i+1) x ns (ns.length - 1) 0↔hd=true):=by
 have hp:=hg.pos
 constructor
 ·rintro ⟨i,hi,hb,hgo⟩
  obtain ⟨x,sp,S,h1,h2,h3,h4,h5⟩:=(JB hg hL h hk hi).1 ((hgd _).1 hgo)
  refine ⟨x,sp,h1,h2,h3,?_⟩
  rw [←Af hg.wf h4 _ (by omega),h5 _ (by omega),hb]
 ·rintro ⟨x,sp,h1,h2,h3,h4⟩
  obtain ⟨S,hS,hR⟩:=mF hg.wf x
  obtain ⟨i,hi,he⟩:=hL.all _ (Kn h1 hR 0)
  refine ⟨i,hi,?_,(hgd _).2 ((JB hg hL h hk hi).2 ⟨x,sp,S,h1,h2,h3,hR,he⟩)⟩
  rw [←he _ (by omega),Bool.eq_iff_iff,hS]
  exact h4
/-! ### What slips -/
def adT (out:Nat→Nat) (nx:Nat→Nat→Nat) (vd:Nat) (k a k':Nat):Prop:=out k≠vd∧k'=nx k a∧out (nx k a)≠vd
theorem P6 {ns:List Nd} (hg:Good ns) {aa:Nat→Bool} (hl:gW ns (aI ns ns.length) aa) {us:List (List Nat)} {xs:List Nat} (hE:eX ns aa (aB ns aa) us xs) (hx:xs.length=8*us.length) (vd:Nat) (hd:Bool) :
  (∃ x sp,dM x∧sp 0=0∧X7 us.length (adT (bQ ns aa (aB ns aa) us) (aL xs) vd) x sp∧(dz (fun i=>i+1) x ns (ns.length - 1) 0↔hd=true))↔Hw ns vd hd:=by
 constructor
 ·rintro ⟨x,sp,h1,h2,h3,h4⟩
  refine ⟨x,h1,h4,fun k hk=>?_⟩
  have sv:=lJ hg hl hE hx h1 h2 (fun t=>(h3 t).2.2.1) k
  exact (h3 k).2.1 (jW sv hk)
 ·rintro ⟨x,h1,h4,hno⟩
  let sp:Nat→Nat:=fun t=>Nat.rec 0 (fun t s=>aL xs s (x t)) t
  have ss:∀ t,sp (t+1)=aL xs (sp t) (x t):=fun t=>rfl
  have st:=qW hg hl hE hx h1 (sp:=sp) rfl ss
  have sv:=lJ hg hl hE hx h1 (sp:=sp) rfl ss
  have ne:∀ t,bQ ns aa (aB ns aa) us (sp t)≠vd:=fun t e=>hno t (by rw [←e];exact sv t)
  exact ⟨x,sp,h1,rfl,fun t=>⟨(st t).1,ne t,ss t,by rw [←ss];exact ne (t+1)⟩,h4⟩
theorem WX {ns:List Nd} (hg:Good ns) {aa:Nat→Bool} (hl:gW ns (aI ns ns.length) aa) {us:List (List Nat)} {xs:List Nat} (hE:eX ns aa (aB ns aa) us xs) (hx:xs.length=8*us.length) :
  (∀ i,i<us.length→bQ ns aa (aB ns aa) us i≠2)↔∀ u,(∀ x∈u,x<8)→¬ iC ns u 2:=by
 constructor
 ·intro h u hu hv
  obtain ⟨i,hi,h4⟩:=Jg hg hl hE hx hu
  exact h i hi (jW h4 hv)
 ·intro h i hi e
  have hm:us.getD i []∈us:=by simp [List.getD,List.getElem?_eq_getElem hi]
  refine h _ (hE.wE _ hm) ?_
  have:=mP hg hl (hE.wE _ hm)
  unfold bQ at e
  rw [e] at this
  exact this
open Go.RowKit
def jY (xs:List Nat) (i:Nat):List Nat:=(List.range 8).map fun a=>xs.getD (8*i+a) 0
theorem sO (xs:List Nat) (i:Nat):(jY xs i).length=8:=by simp [jY]
theorem MO (xs:List Nat) {i a:Nat} (ha:a<8):bG (jY xs i) a=aL xs i a:=by simp [bG,jY,aL,List.getD,ha]
theorem Em {xs:List Nat} {i j:Nat} (h:8*i+8≤xs.length):jY (xs++[j]) i=jY xs i:=by
 unfold jY
 refine List.map_congr_left fun a ha=>?_
 have:a<8:=by simpa using ha
 exact dU (by omega)
theorem En {xs:List Nat} {k:Nat} (h:xs.length=8*k+8):xs.drop (8*k)=jY xs k:=by
 apply List.ext_getElem
 ·simp [jY];omega
 ·intro i h1 h2
  simp at h1
  simp [jY,List.getD,List.getElem?_eq_getElem (show 8*k+i<xs.length by omega)]
structure xR (w:World) (P K:Nat) (out:Nat→Nat) (nx:Nat→List Nat):Prop where
 lt:P<w.heap.size
 c0:∃ ao cap,w.cell? ⟨P,0,none⟩=some (.slice ao K cap)
 c1:∃ v,w.cell? ⟨P,1,none⟩=some v∧NR w v ((List.range K).map out)
 c2:∃ v,w.cell? ⟨P,2,none⟩=some v∧GQ w v K nx
theorem xR.below {w w':World} {P K:Nat} {out:Nat→Nat} {nx:Nat→List Nat} (h:xR w P K out nx) (hb:Below w.heap.size w w'):xR w' P K out nx:=by
 obtain ⟨ao,cap,h0⟩:=h.c0
 obtain ⟨v1,a1,b1⟩:=h.c1
 obtain ⟨v2,a2,b2⟩:=h.c2
 exact ⟨Nat.lt_of_lt_of_le h.lt hb.size,⟨ao,cap,(hb.cell (p:=⟨P,0,none⟩) h.lt).trans h0⟩,⟨v1,(hb.cell (p:=⟨P,1,none⟩) h.lt).trans a1,b1.below hb⟩,⟨v2,(hb.cell (p:=⟨P,2,none⟩) h.lt).trans a2,b2.below hb⟩⟩
def Ba (ns:List Nd) (vs:List Nat) (u:List Nat):(Nat→Bool) × (Nat→Bool):=(yr ns vs true u,yr ns vs false u)
def uz (ns:List Nd) (aa:Nat→Bool) (us:List (List Nat)):List Nat:=us.map fun u=>oJ aa (cZ ns aa (aB ns aa) u)
theorem Tv (ns:List Nd) (aa:Nat→Bool) (us:List (List Nat)):uz ns aa us=(List.range us.length).map (bQ ns aa (aB ns aa) us):=by
 unfold uz
 apply List.ext_getElem
 ·simp
 ·intro i h1 h2
  simp at h1
  simp [bQ,List.getD,List.getElem?_eq_getElem h1]
theorem XQ {ns:List Nd} (hg:Good ns) {aa:Nat→Bool} (hl:gW ns (aI ns ns.length) aa) {vs:List Nat} (hL:eQ ns vs.length (aJ vs)) {us:List (List Nat)} {xs:List Nat} (hE:eX ns aa (aB ns aa) us xs) {u0:List Nat} (h0:us[xs.length / 8]?=some u0) {j:Nat} {rs rs':List (Nat × Nat)} (hrs:rs.length=us.length) {outs':List Nat} {fs':List ((Nat→Bool) × (Nat→Bool))} {by_ bn:Nat}
  (h:(rs'=rs∧fs'=us.map (Ba ns vs)∧outs'=uz ns aa us∧∃ p,(us.map (Ba ns vs))[j]?=some p∧(∀ i,i<vs.length→p.1 i=gD ns vs (yr ns vs true u0) (xs.length % 8) vs.length i)) ∨
  (j=rs.length∧rs'=rs++[(by_,bn)]∧fs'=us.map (Ba ns vs)++[(gD ns vs (yr ns vs true u0) (xs.length % 8) vs.length,gD ns vs (yr ns vs false u0) (xs.length % 8) vs.length)]∧outs'=uz ns aa us++[zt (iF (gD ns vs (yr ns vs true u0) (xs.length % 8) vs.length) vs.length) (iF (gD ns vs (yr ns vs false u0) (xs.length % 8) vs.length) vs.length)]∧∀ p∈us.map (Ba ns vs),¬ ((∀ i,i<vs.length→p.1 i=gD ns vs (yr ns vs true u0) (xs.length % 8) vs.length i)∧∀ i,i<vs.length→p.2 i=gD ns vs (yr ns vs false u0) (xs.length % 8) vs.length i))) :
  ∃ us',(∃ more,us'=us++more)∧eX ns aa (aB ns aa) us' (xs++[j])∧fs'=us'.map (Ba ns vs)∧outs'=uz ns aa us'∧rs'.length=us'.length:=by
 have hu0:=hE.wE u0 (List.mem_of_getElem? h0)
 have ha:xs.length % 8<8:=Nat.mod_lt _ (by omega)
 rcases h with ⟨rfl,rfl,rfl,p,hp,hq⟩ | ⟨rfl,rfl,rfl,rfl,hall⟩
 ·rw [List.getElem?_map,Option.map_eq_some_iff] at hp
  obtain ⟨u1,h1,rfl⟩:=hp
  refine ⟨us,⟨[],by simp⟩,Ob hE h0 h1 ?_,rfl,rfl,hrs⟩
  exact (Bj hg hl hL ha (hE.wE u1 (List.mem_of_getElem? h1)) hu0 true).1 hq
 ·refine ⟨us++[u0++[xs.length % 8]],⟨_,rfl⟩,?_,?_,?_,by simp [hrs]⟩
  ·rw [hrs]
   refine Oc hE h0 fun u hu=>?_
   cases e:geq (cZ ns aa (aB ns aa) u) (stepG ns aa (cZ ns aa (aB ns aa) u0) (xs.length % 8)) with
   | false=>rfl
   | true=>
    have hu8:=hE.wE u hu
    exact absurd ⟨(Bj hg hl hL ha hu8 hu0 true).2 e,(Bj hg hl hL ha hu8 hu0 false).2 e⟩ (hall _ (List.mem_map.2 ⟨u,hu,rfl⟩))
  ·rw [List.map_append]
   simp only [List.map_cons,List.map_nil,Ba,CG]
  ·unfold uz
   rw [List.map_append]
   simp only [List.map_cons,List.map_nil]
   rw [←CG,←CG,Jj hg hl hL (fun x hx=>by
    rcases List.mem_append.1 hx with hx | hx
    ·exact hu0 x hx
    ·simp at hx;omega)]
theorem xS.grown {w w':World} {B T M:Nat} {vS vO vN:Value} {rs:List (Nat × Nat)} {fs:List ((Nat→Bool) × (Nat→Bool))} {outs:List Nat} (h:xS w B T M vS vO vN rs fs outs) {B2 e2 s2 n2:Nat} {v2:Value} {ys:List Value} (h2:w.ownsRow B2 e2 s2 v2 n2 ys) (hg:w.grownBy w' v2.ownBlock) (hT:v2.ownBlock≠some T) (h1:144≠e2) (h3:4≠e2) (h4:vO.ownBlock=none∨vO.ownBlock≠v2.ownBlock):xS w' B T M vS vO vN rs fs outs:=by
 have hb:=hg.block T h.t.lt (fun e=>hT e.symm)
 have hc:∀ o,w'.cell? ⟨T,o,none⟩=w.cell? ⟨T,o,none⟩:=fun o=>World.cell?_of_block (a:=⟨T,o,none⟩) hb
 have hf:∀ o,w'.frozen? ⟨T,o,none⟩=w.frozen? ⟨T,o,none⟩:=fun o=>World.frozen?_of_block (a:=⟨T,o,none⟩) hb
 exact ⟨⟨(hc 0).trans h.t.c0,(hc 1).trans h.t.c1,(hc 2).trans h.t.c2,fun o ho=>(hf o).trans (h.t.fz o ho)⟩,h.tB,h.len,h.MN,h.st.kept hg (aD h.st h2 h1),h.ou.kept hg h4,fun i p q a b=>⟨(h.row i p q a b).1.kept hg (aD (h.row i p q a b).1 h2 h3),(h.row i p q a b).2.kept hg (aD (h.row i p q a b).2 h2 h3)⟩⟩
theorem xS.set2 {w:World} {B T M:Nat} {vS vO vN:Value} {rs:List (Nat × Nat)} {fs:List ((Nat→Bool) × (Nat→Bool))} {outs:List Nat} (h:xS w B T M vS vO vN rs fs outs) (v:Value):xS (w.setCell ⟨T,2,none⟩ v) B T M vS vO v rs fs outs:=
 ⟨h.t.set2 v,h.tB,h.len,h.MN,ak h.st h.tB 2 v,ak h.ou h.tB 2 v,fun i p q a b=>⟨ak (h.row i p q a b).1 h.tB 2 v,ak (h.row i p q a b).2 h.tB 2 v⟩⟩
theorem eD.kb {w w':World} {B e e' j T:Nat} {r1 r2:Option Nat} {v:Value} {V:Nat→Value} {xs:Nat→List Value} (h:eD w B e e' v j V xs) (f:KB w w' T r1 r2) (hT:T<B) (h1:v.ownBlock=none∨v.ownBlock≠r1) (h2:v.ownBlock=none∨v.ownBlock≠r2) (h3:∀ i,i<j→(V i).ownBlock=none∨(V i).ownBlock≠r1) (h4:∀ i,i<j→(V i).ownBlock=none∨(V i).ownBlock≠r2):eD w' B e e' v j V xs:=
 ⟨fB h.out f (fun e=>by have:=(h.out.lt _ e).1;omega) h1 h2,fun i hi=>fB (h.row i hi) f (fun e=>by have:=((h.row i hi).lt _ e).1;omega) (h3 i hi) (h4 i hi)⟩
theorem eD.tL {w w':World} {B e e' j:Nat} {v:Value} {V:Nat→Value} {xs:Nat→List Value} {r:Option Nat} (h:eD w B e e' v j V xs) (hg:w.grownBy w' r) (h1:v.ownBlock=none∨v.ownBlock≠r) (h3:∀ i,i<j→(V i).ownBlock=none∨(V i).ownBlock≠r):eD w' B e e' v j V xs:=
 ⟨h.out.kept hg h1,fun i hi=>(h.row i hi).kept hg (h3 i hi)⟩
def agt (ns:List Nd) (aa:Nat→Bool) (w:World) (e:Ending) (w':World):Prop:=
 ∃ us xs,e=.returned (.pointer (some ⟨w.heap.size,0,none⟩))∧eX ns aa (aB ns aa) us xs∧xs.length=8*us.length∧xR w' w.heap.size us.length (bQ ns aa (aB ns aa) us) (jY xs)∧Below w.heap.size w w'
theorem Nz (R F gp cap:Nat) (ns:List Nd) (bs vs:List Nat) (aa:Nat→Bool) (w:World) (h:p9 w R F gp cap ns bs vs) (hg:Good ns) (hM:vs.length≤256) (hl:gW ns (aI ns ns.length) aa) (hL:eQ ns vs.length (aJ vs)) (hfew:∀ us xs,eX ns aa (aB ns aa) us xs→us.length≤796594185) :
  Calls Tryz.prog 37 #[.pointer (some ⟨R,0,none⟩)] w (agt ns aa w):=by
 have hR:=h.lt
 have HR:=hid h
 have HG:=hid hg
 have HL:=hid hL
 have kK:=hid hl
 have oF:=hid hfew
 obtain ⟨i0,hi,hz0,hz1,hz2⟩:=info_parts Tryz.kG
 obtain ⟨i1,hi1,hz01,hz11,hz21⟩:=info_parts Tryz.sQ
 clear h hg hl hL hfew
 go_enter Tryz.func37,Tryz.ntmps37
 go_wp2_with fail
 have ba:=(Below.refl w.heap.size w).alloc (Nat.le_refl _) (.cells #[.slice none 0 0,.slice none 0 0,.slice none 0 0] 81)
 have T1:=bK w (.slice none 0 0) (.slice none 0 0) (.slice none 0 0) 81
 refine (Bc R F gp cap ns bs vs true _ (HR.out.below ba) HG.out hM).mono ?_
 rintro e w1 ⟨ga,rfl,-,hga,hb1,o1⟩
 simp only [World.size_alloc] at hga hb1 o1
 have T2:=T1.below hb1 (by omega)
 have HB1:=ba.trans (hb1.mono (by omega))
 have hs1:=hb1.size
 simp only [World.size_alloc] at hs1
 go_wp2_with fail
 refine (Bc R F gp cap ns bs vs false _ (HR.out.below HB1) HG.out hM).mono ?_
 rintro e w2 ⟨gb,rfl,-,hgb,hb2,o2⟩
 have T3:=T2.below hb2 (by omega)
 have HB2:=hid (HB1.trans (hb2.mono (by omega)))
 have hs2:=hb2.size
 have o1':=ae (aY o1 (show w.heap.size+1≤w.heap.size+1 by omega)) hb2
 have o2':=aY o2 (show w.heap.size+1≤w1.heap.size by omega)
 have FM:xS w2 (w.heap.size+1) w.heap.size vs.length (.slice none 0 0) (.slice none 0 0) (.slice none 0 0) [] [] []:=⟨T3,by omega,rfl,rfl,World.ownsRow_nil _ _ _ _,World.ownsRow_nil _ _ _ _,fun i p q h=>by simp at h⟩
 clear ba T1 T2 T3 HB1 hb1 hb2 o1 o2
 go_wp2_with fail
 refine (Q8 w2 (w.heap.size+1) w.heap.size vs.length _ _ _ [] [] [] ga gb _ _ FM (by omega) (by simp) (by omega) o1' o2').mono ?_
 rintro e w3 ⟨j,vS3,vO3,rs3,fs3,outs3,rfl,FM3,K3,hvO3,hcase⟩
 obtain ⟨rfl,rfl,rfl,rfl,hnew⟩:j=0∧rs3=[(ga,gb)]∧fs3=[[]].map (Ba ns vs)∧outs3=uz ns aa [[]]∧True:=by
  rcases hcase with ⟨_,_,_,p,hp,_⟩ | ⟨rfl,rfl,rfl,rfl,_⟩
  ·simp at hp
  ·refine ⟨rfl,rfl,rfl,?_,trivial⟩
   have:=Jj HG.out kK.out HL.out (u:=[]) (fun x hx=>by simp at hx)
   simp only [uz,List.map_cons,List.map_nil,List.nil_append,←this]
   rfl
 have HB3:=hid (EK HB2.out K3 (by omega) (Nat.le_refl _) (fun k h=>by simp [Value.ownBlock] at h) (fun k h=>by simp [Value.ownBlock] at h))
 have FM3:=hid FM3
 have hs3:=K3.size
 clear hcase K3 hvO3 FM o1' o2' HB2 hnew
 go_wp2_with fail
 go_loopw [6] (fun i wq=>∃ (k:Nat) (us:List (List Nat)) (xs:List Nat) (vS vO vN:Value) (rs:List (Nat × Nat)) (V:Nat→Value),i=.int .i64 k∧k≤us.length∧xs.length=8*k∧rs.length=us.length∧Hid (eX ns aa (aB ns aa) us xs)∧Hid (xS wq (w.heap.size+1) w.heap.size vs.length vS vO vN rs (us.map (Ba ns vs)) (uz ns aa us))∧Hid (eD wq (w.heap.size+1) 22 3 vN k V (fun q=>au (jY xs q)))∧Hid (∀ i,i<k→(V i).ownBlock≠vO.ownBlock)∧Hid (Below w.heap.size w wq)∧w.heap.size+1≤wq.heap.size) (fun i _=>796594190 - (intOf i).toNat)
 case atStart=>exact ⟨0,[[]],[],vS3,vO3,_,_,fun _=>.slice none 0 0,rfl,by simp,rfl,rfl,hid Gi,FM3,hid (qx _ _ _ _ _ _),hid (fun i h=>by omega),HB3,by omega⟩
 case round=>
  obtain ⟨k,us,xs,vS,vO,vN,rs,V,rfl,hk,hxl,hrs,HE,HF,HN,HD,HB,hsz⟩:=hrel
  rename World=>W0
  clear HB3 FM3
  have hfw:=oF.out us xs HE.out
  have t0:=HF.out.t.c0
  have uD:=HF.out.st
  rw [hrs] at uD
  obtain ⟨aoS,cpS,rfl⟩:=ag uD
  by_cases hlk:k<us.length
  ·obtain ⟨u0,hu0⟩:∃ u0,us[k]?=some u0:=⟨us[k],List.getElem?_eq_getElem hlk⟩
   have rW:=hid hu0
   have yV:=hid (fun i (hi:i<k) q (h:(V i).ownBlock=some q)=>((HN.out.row i hi).lt q h).2)
   clear uD hu0
   go_wp2_with fail
   go_loopw [7,8] (fun vL i wq=>∃ (l:Nat) (us:List (List Nat)) (xs:List Nat) (vS vO:Value) (rs:List (Nat × Nat)),i=.int .i64 l∧l≤8∧xs.length=8*k+l∧rs.length=us.length∧Hid (us[k]?=some u0)∧Hid (eX ns aa (aB ns aa) us xs)∧Hid (xS wq (w.heap.size+1) w.heap.size vs.length vS vO vN rs (us.map (Ba ns vs)) (uz ns aa us))∧Hid (eD wq (w.heap.size+1) 22 3 vN k V (fun q=>au (jY xs q)))∧Hid (∀ i,i<k→(V i).ownBlock≠vO.ownBlock)∧Hid (wq.ownsRow W0.heap.size 3 1 vL l (au (xs.drop (8*k))))∧Hid (vL.ownBlock=none∨vL.ownBlock≠vO.ownBlock)∧Hid (Below w.heap.size w wq)∧W0.heap.size≤wq.heap.size) (fun _ i _=>8 - (intOf i).toNat)
   case atStart=>exact ⟨0,us,xs,_,_,rs,rfl,by omega,by omega,hrs,rW,HE,HF,HN,HD,by rw [List.drop_of_length_le (by omega)];exact hid (World.ownsRow_nil _ _ _ _),hid (Or.inl rfl),HB,Nat.le_refl _⟩
   case round=>
    obtain ⟨l,us,xs,vS,vO,rs,rfl,hl8,hxl,hrs,rW,HE,HF,HN,HD,HLs,HLO,HB,iP⟩:=hrel
    rename World=>W3
    clear t0
    have uD:=HF.out.st
    rw [hrs] at uD
    obtain ⟨aoS2,cpS2,rfl⟩:=ag uD
    by_cases hll:l<8
    ·have Np:=(List.getElem?_eq_some_iff.1 rW.out).1
     have hfw:=oF.out us xs HE.out
     obtain ⟨gS,rfl,hgS,hgSs,hcS⟩:=dH uD (by omega)
     obtain ⟨⟨p1,p2⟩,hp⟩:∃ p,rs[k]?=some p:=⟨rs[k]'(by rw [hrs];exact Np),List.getElem?_eq_getElem (by rw [hrs];exact Np)⟩
     have t0:=HF.out.t.c0
     have y0:W3.cell? ⟨gS,k*2,none⟩=some (.slice (some ⟨p1,0,none⟩) vs.length vs.length):=by rw [uD.cellAt (k*2) (by omega),(uY hp).1]
     have y1:W3.cell? ⟨gS,k*2+1,none⟩=some (.slice (some ⟨p2,0,none⟩) vs.length vs.length):=by rw [uD.cellAt (k*2+1) (by omega),(uY hp).2]
     obtain ⟨o1,o2⟩:=HF.out.row k (p1,p2) (Ba ns vs u0) hp (by rw [List.getElem?_map,rW.out];rfl)
     dsimp only [Ba] at o1 o2
     have rC:w.heap.size<W3.heap.size:=HF.out.t.lt
     have afC:=hid (uf o1)
     have afA:=hid (uf o2)
     clear uD hp o1 o2
     go_wp2_with fail
     refine (MM R F gp cap p1 l ns bs vs (yr ns vs true u0) W3 (HR.out.below HB.out) HG.out hM hll afC.out).mono ?_
     rintro e w4 ⟨gy,rfl,-,hgy,hb4,o4⟩
     have t04:=(hb4.cell (p:=⟨w.heap.size,0,none⟩) rC).trans t0
     have y14:=(hb4.cell (p:=⟨gS,k*2+1,none⟩) hgSs).trans y1
     have hs4:=hb4.size
     have dm:=hid (HB.out.trans (hb4.mono HB.out.size))
     have aa1:=hid hb4
     have O4:=hid o4
     clear y0 y1 t0 hb4 o4
     go_wp2_with fail
     refine (MM R F gp cap p2 l ns bs vs (yr ns vs false u0) w4 (HR.out.below dm.out) HG.out hM hll (afA.out.below aa1.out)).mono ?_
     rintro e w5 ⟨gn,rfl,-,hgn,hb5,o5⟩
     have hs5:=hb5.size
     have bb:=aa1.out.trans (hb5.mono hs4)
     have F5:=HF.out.below bb
     have N5:=HN.out.keeps bb
     have L5:=ae HLs.out bb
     have dV:=dm.out.trans (hb5.mono dm.out.size)
     have O45:=ae (aY O4.out (show w.heap.size+1≤W3.heap.size by omega)) hb5
     have O55:=aY o5 (show w.heap.size+1≤w4.heap.size by omega)
     have F5:=hid F5
     have N5:=hid N5
     have L5:=hid L5
     have dV:=hid dV
     have O45:=hid O45
     have O55:=hid O55
     clear hb5 o5 bb HF HN HLs HB dm aa1 O4 afC afA t04 y14
     have hxm:xs.length / 8=k∧xs.length % 8=l:=by omega
     go_wp2_with fail
     refine (Q8 w5 (w.heap.size+1) w.heap.size vs.length _ _ _ rs _ _ gy gn _ _ F5.out (by omega) (by omega) (by omega) O45.out O55.out).mono ?_
     rintro e w6 ⟨j,vS6,vO6,rs6,fs6,outs6,rfl,FM6,K6,hvO6,hcase⟩
     obtain ⟨us6,⟨more,hmore⟩,hE6,rfl,rfl,hrs6⟩:=XQ HG.out kK.out HL.out HE.out (u0:=u0) (by rw [hxm.1];exact rW.out) (j:=j) (rs:=rs) (rs':=rs6) hrs (outs':=outs6) (fs':=fs6) (by_:=gy) (bn:=gn) (by rw [hxm.2];exact hcase)
     have hu6:us6[k]?=some u0:=by rw [hmore,List.getElem?_append_left Np];exact rW.out
     have vNe:vN.ownBlock=none∨vN.ownBlock≠(Value.slice (some ⟨gS,0,none⟩) us.length cpS2).ownBlock:=by
      have h9:=F5.out.st
      exact aD N5.out.out h9 (by decide)
     have vNo:vN.ownBlock=none∨vN.ownBlock≠vO.ownBlock:=aD N5.out.out F5.out.ou (by decide)
     have N6:=N5.out.kb K6 (by omega) vNe vNo (fun i hi=>aD (N5.out.row i hi) F5.out.st (by decide)) (fun i hi=>Or.inr (HD.out i hi))
     have Nt:u7.ownBlock≠some w.heap.size:=fun e=>by have:=(L5.out.lt _ e).1;omega
     have L6:=fB L5.out K6 Nt (aD L5.out F5.out.st (by decide)) HLO.out
     have ajb:=hid (fun i (hi:i<k) q (h:(V i).ownBlock=some q)=>((N5.out.row i hi).lt q h).2)
     have D6:∀ i,i<k→(V i).ownBlock≠vO6.ownBlock:=fun i hi e=>by
      rcases hvO6 with h | ⟨q,h,hq⟩
      ·exact HD.out i hi (by rw [e,h])
      ·rw [h] at e
       have:=ajb.out i hi q e
       omega
     have X8:u7.ownBlock=none∨u7.ownBlock≠vO6.ownBlock:=by
      rcases HLO.out with h | h
      ·exact Or.inl h
      ·refine Or.inr fun e=>?_
       rcases hvO6 with h2 | ⟨q,h2,hq⟩
       ·exact h (by rw [e,h2])
       ·rw [h2] at e
        have:=(L5.out.lt q e).2
        omega
     have iQ:=hid (EK dV.out K6 dV.out.size (Nat.le_refl _) (fun q h=>by have:=(F5.out.st.lt q h).1;omega) (fun q h=>by have:=(F5.out.ou.lt q h).1;omega))
     have hs6:=K6.size
     have F6:=hid FM6
     have N6:=hid N6
     have L6:=hid L6
     have D6:=hid D6
     have X8:=hid X8
     have HE6:=hid hE6
     have HU6:=hid hu6
     have hj6:j<us6.length:=by
      obtain ⟨_,u1,_,h9,_⟩:=hE6.ok xs.length (by simp)
      rw [di] at h9
      exact (List.getElem?_eq_some_iff.1 h9).1
     have amR:=oF.out us6 _ hE6
     clear FM6 K6 hvO6 hcase hE6 hu6 F5 N5 L5 dV O45 O55 HD HLO vNe vNo HE rW hmore
     obtain ⟨aoL,cpL,rfl⟩:=ag L6.out
     have lh:=hid (fun q h=>(L6.out.lt q h).1)
     go_wp2_with (at_builtin;go_must (refine wpList_append_lies _ rfl (.tmp 63) (.tmp 65) 22 rfl W0.heap.size 3 i0 (.int .i64 0) 1 8 Tryz.underlying22 hi hz0 hz1 hz2 rfl (by decide) _ l (au (xs.drop (8*k))) rfl (L6.out.alloc _) ⟨w6.heap.size,0,none⟩ 1 1 [.int .i64 (j:Nat)] rfl rfl (bE w6 [.int .i64 (j:Nat)] _) (by intro y hy;simp at hy;rcases hy with rfl;rfl) (by decide) (by unfold maxLen;omega) (by omega) (by simp;omega) (w6.heap.size+1) (by simp) ?_))
     intro gg cc w7 hown hgrow hat hlt7
     have b6:=(Below.refl w6.heap.size w6).alloc (Nat.le_refl _) (.cells #[.int .i64 (j:Nat)] 3)
     have hs7:w6.heap.size≤w7.heap.size:=by
      have:=hgrow.size
      simp at this
      omega
     have aeL:(Value.slice aoL l cpL).ownBlock≠some w.heap.size:=Nt
     have F7:=hid ((F6.out.below b6).grown (L6.out.alloc (.cells #[.int .i64 (j:Nat)] 3)) hgrow aeL (by decide) (by decide) (by
      rcases X8.out with h | h
      ·rw [h]
       cases vO6.ownBlock <;> simp
      ·exact Or.inr fun e=>h e.symm))
     have hVL:∀ i,i<k→(V i).ownBlock=none∨(V i).ownBlock≠(Value.slice aoL l cpL).ownBlock:=fun i hi=>by
      cases hv:(V i).ownBlock with
      | none=>exact Or.inl rfl
      | some q=>
       refine Or.inr fun e=>?_
       have h1:=lh.out q e.symm
       have h2:=yV.out i hi q hv
       omega
     have N7:=((N6.out.keeps b6).tL hgrow (aD (N6.out.keeps b6).out (L6.out.alloc (.cells #[.int .i64 (j:Nat)] 3)) (by decide)) hVL)
     have N7:Hid (eD w7 (w.heap.size+1) 22 3 vN k V (fun q=>au (jY (xs++[j]) q))):=hid ⟨N7.out,fun i hi=>by
      rw [Em (by omega)]
      exact N7.row i hi⟩
     have L7:Hid (w7.ownsRow W0.heap.size 3 1 (.slice (some ⟨gg,0,none⟩) (l+1) cc) (l+1) (au ((xs++[j]).drop (8*k)))):=hid (by
      rw [List.drop_append_of_le_length (by omega),show au (xs.drop (8*k)++[j])=au (xs.drop (8*k))++[.int .i64 (j:Nat)] by simp [au]]
      exact hown)
     have LO7:Hid ((Value.slice (some ⟨gg,0,none⟩) (l+1) cc).ownBlock=none∨(Value.slice (some ⟨gg,0,none⟩) (l+1) cc).ownBlock≠vO6.ownBlock):=hid (Or.inr fun e=>by
      have e2:vO6.ownBlock=some gg:=e.symm
      rcases hat with h | h
      ·rcases X8.out with h2 | h2
       ·rw [h] at h2;cases h2
       ·exact h2 (by rw [h,e2])
      ·have:=(F6.out.ou.lt gg e2).2
       omega)
     have fI:=hid ((iQ.out.alloc (by omega) (.cells #[.int .i64 (j:Nat)] 3)).grown hgrow (by simp;omega) (fun q h=>by have:=lh.out q h;omega))
     clear hown hgrow hat b6 F6 N6 L6 X8 iQ hVL aeL Nt
     go_wp2_with fail
     go_roundw
     case rel=>exact ⟨l+1,us6,xs++[j],vS6,vO6,rs6,by go_num,by omega,by rw [List.length_append,List.length_singleton];omega,hrs6,HU6,HE6,F7,N7,D6,L7,LO7,fI,by omega⟩
     case measure=>simp [intOf];omega
    ·obtain rfl:l=8:=by omega
     have Np:=(List.getElem?_eq_some_iff.1 rW.out).1
     have hfw:=oF.out us xs HE.out
     have t2:=HF.out.t.c2
     obtain ⟨aoL,cpL,rfl⟩:=ag HLs.out
     obtain ⟨aoN,cpN,rfl⟩:=ag HN.out.out
     have rC:w.heap.size<W3.heap.size:=HF.out.t.lt
     have b6:=(Below.refl W3.heap.size W3).alloc (Nat.le_refl _) (.cells #[.slice aoL 8 cpL] 22)
     go_wp2_with (at_builtin;go_must (refine wpList_append_lies _ rfl (.tmp 71) (.tmp 73) 23 rfl (w.heap.size+1) 22 i1 (.slice none 0 0) 1 24 Tryz.underlying23 hi1 hz01 hz11 hz21 rfl (by decide) _ k ((List.range k).map V) rfl (HN.out.out.alloc _) ⟨W3.heap.size,0,none⟩ 1 1 [.slice aoL 8 cpL] rfl rfl (bE W3 [.slice aoL 8 cpL] _) (by intro y hy;simp at hy;rcases hy with rfl;rfl) (by decide) (by unfold maxLen;omega) (by omega) (by simp;omega) (W3.heap.size+1) (by simp) ?_))
     intro gg cc w7 hown hgrow hat hlt7
     have hs7:W3.heap.size≤w7.heap.size:=by
      have:=hgrow.size
      simp at this
      omega
     have lQ:(Value.slice aoN k cpN).ownBlock≠some w.heap.size:=fun e=>by have:=(HN.out.out.lt _ e).1;omega
     have nG:gg≠w.heap.size:=by
      rcases hat with h | h
      ·exact fun e=>lQ (by rw [←e];exact h)
      ·omega
     have lc:=(aY HLs.out (show w.heap.size+1≤W0.heap.size by omega)).alloc (.cells #[.slice aoL 8 cpL] 22)
     have Nk:(au (jY xs k)).length=8:=by rw [kg,sO]
     rw [En (by omega)] at lc
     have F7:=(HF.out.below b6).grown (HN.out.out.alloc (.cells #[.slice aoL 8 cpL] 22)) hgrow lQ (by decide) (by decide) (aD (ae HF.out.ou b6) (HN.out.out.alloc (.cells #[.slice aoL 8 cpL] 22)) (by decide))
     have N7:=kC (HN.out.keeps b6) (x:=.slice aoL 8 cpL) (by rw [Nk];exact lc) (by decide) hgrow hown
     have q2:=F7.t.c2
     have f2:=F7.t.fz 2 (by omega)
     have D1:=hid (F7.set2 (.slice (some ⟨gg,0,none⟩) (k+1) cc))
     have D2:=hid (N7.set (show w.heap.size<w.heap.size+1 by omega) 2 (.slice (some ⟨gg,0,none⟩) (k+1) cc))
     have D3:Hid (∀ i,i<k+1→((fun i=>if i=k then Value.slice aoL 8 cpL else V i) i).ownBlock≠vO.ownBlock):=hid (fun i hi=>by
      by_cases c:i=k
      ·simp only [c,if_true]
       rcases HLO.out with h | h
       ·obtain ⟨g9,h9,_⟩:=dH HLs.out (by omega)
        subst h9
        simp [Value.ownBlock] at h
       ·exact h
      ·simp only [c,if_false]
       exact HD.out i (by omega))
     have D4:=hid (((HB.out.alloc HB.out.size (.cells #[.slice aoL 8 cpL] 22)).grown hgrow (by simp;omega) (fun q h=>by have:=(HN.out.out.lt q h).1;omega)).setCell (p:=⟨w.heap.size,2,none⟩) (Nat.le_refl _) (.slice (some ⟨gg,0,none⟩) (k+1) cc))
     clear hown hgrow hat b6 HF HN HB lc F7 N7 lQ
     go_wp2_with fail
     go_roundw
     case rel=>exact ⟨k+1,us,xs,_,vO,_,rs,_,by go_num,by omega,by omega,hrs,HE,D1,D2,D3,D4,by simp;omega⟩
     case measure=>simp [intOf];omega
  ·obtain rfl:k=us.length:=by omega
   have FR:=hid (show xR W0 w.heap.size us.length (bQ ns aa (aB ns aa) us) (jY xs) from ⟨HF.out.t.lt,⟨_,_,t0⟩,⟨_,HF.out.t.c1,by
    rw [←Tv]
    refine yI (B:=w.heap.size+1) ?_
    have h9:=HF.out.ou
    rw [hrs] at h9
    rw [show (uz ns aa us).length=us.length by simp [uz]]
    exact h9⟩,⟨_,HF.out.t.c2,CK HN.out⟩⟩)
   go_wp2_with fail
   go_ret
   exact ⟨us,xs,rfl,HE.out,hxl,FR.out,HB.out⟩
end Go.Proofs.YtjagijohfkffiabGreat
