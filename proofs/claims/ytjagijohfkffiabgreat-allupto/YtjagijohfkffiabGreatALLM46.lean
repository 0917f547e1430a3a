import Derived.Test.YtjagijohfkffiabGreatALLM08
import Derived.Test.YtjagijohfkffiabGreatALLM31
import Derived.Test.YtjagijohfkffiabGreatALLM41
import Derived.Test.YtjagijohfkffiabGreatALLM44
import Derived.Test.YtjagijohfkffiabGreatALLM45
set_option maxHeartbeats 16000000
set_option maxRecDepth 100000
namespace Go.Proofs.YtjagijohfkffiabGreat
set_option linter.unusedVariables false
def LG (n:Nat) (ed:Nat→Nat→Bool) (st:Nat→Bool) (q:Nat→Nat):Prop:=st (q 0)=true∧∀ t,q t<n∧ed (q t) (q (t+1))=true
def oU (ns:List Nd) (n:Nat) (lt:Nat→Nat) (ed:Nat→Nat→Bool) (st:Nat→Bool):Prop:=∀ q,LG n ed st q→dz (fun i=>i+1) (fun t=>lt (q t)) ns (ns.length - 1) 0
section
variable {ns:List Nd} {aa:Nat→Bool} {n:Nat} {lt:Nat→Nat} {ed:Nat→Nat→Bool} {st f:Nat→Bool} {tl:Nat→List (Nat × Nat)}
theorem Sj (hg:Good ns) (hl:gW ns (aI ns ns.length) aa) (hn:n≤6) (hlt:∀ i,i<n→lt i<8) (hA:uP lt ed n 0 tl) {q:Nat→Nat} (hq:Path (Ew n ns tl) q) (hm:tQ (KL (spreads (aI ns ns.length))) (spreads (aI ns ns.length)).length q) :
  (∀ t,q t / 256<n∧ed (q t / 256) (q (t+1) / 256)=true)∧aa (q 0 % 256)=true∧((q 0 % 256).testBit (ns.length - 1)=true↔dz (fun i=>i+1) (fun t=>lt (q t / 256)) ns (ns.length - 1) 0):=by
 have h8:=hg.le
 have hpos:=hg.pos
 have pt:∀ t,q t / 256<n∧ed (q t / 256) (q (t+1) / 256)=true∧q t % 256=eT ns (lt (q t / 256)) (q (t+1) % 256):=fun t=>by
  obtain ⟨_,i,h1,h2,h3⟩:=(Uw hA hn).1 (hq t)
  have hb:=rJ h8 (lt i) (q (t+1) % 256)
  have e1:q t / 256=i:=by rw [h3];omega
  have e2:q t % 256=eT ns (lt i) (q (t+1) % 256):=by rw [h3];omega
  rw [e1,e2]
  exact ⟨h1,h2,rfl⟩
 have lives:rV ns (q 0 % 256):=by
  refine ⟨fun t=>q t % 256,rfl,fun t=>wN.2 ⟨Nat.mod_lt _ (by omega),lt (q t / 256),hlt _ (pt t).1,(pt t).2.2⟩,nW fun c hc t=>?_⟩
  obtain ⟨t',h1,h2⟩:=nX hm c hc t
  refine ⟨t',h1,?_⟩
  obtain ⟨k,_,_,rfl⟩:=kr.1 hc
  unfold spread at h2 ⊢
  rw [Nat.mod_mod]
  exact h2
 have row:uC ns (fun t=>lt (q t / 256)) (fun t=>tb (q t % 256)):=by
  refine ⟨fun t=>?_,fun k nd hnd t=>?_⟩
  ·have:=jd hg (lt (q t / 256)) (q (t+1) % 256)
   rw [←(pt t).2.2] at this
   exact this
  ·obtain ⟨h1,h2,h3⟩:=lF hg.wf hnd
   have aeC:ai ns k=nd:=by have:=jZ (ns:=ns) h1;rw [hnd] at this;exact (Option.some.inj this).symm
   cases hww:ky nd.op with
   | false=>exact ⟨t,Nat.le_refl _,BC hww⟩
   | true=>
    obtain ⟨t',h4,h5⟩:=nX hm _ (kr.2 ⟨k,h1,by rw [aeC];exact hww,rfl⟩) t
    refine ⟨t',h4,?_⟩
    have hst:=jd hg (lt (q t' / 256)) (q (t'+1) % 256) k nd hnd
    rw [←(pt t').2.2] at hst
    rw [qL hst hww]
    simp only [spread,jm,aeC] at h5
    exact h5
 refine ⟨fun t=>⟨(pt t).1,(pt t).2.1⟩,(hl _).2 lives,?_⟩
 rw [←Af hg.wf row _ (by omega)]
 rfl
theorem PQ {aA:Nat→Bool} {x:Nat} (h:kW st f aA x=true):st (x / 256)=true∧f x=true∧aA (x % 256)=false:=by
 unfold kW at h
 simp only [Bool.and_eq_true,Bool.not_eq_true'] at h
 exact ⟨h.1,h.2.1,h.2.2⟩
theorem TB (hg:Good ns) (hl:gW ns (aI ns ns.length) aa) (hn:n≤6) (hlt:∀ i,i<n→lt i<8) (hA:uP lt ed n 0 tl) (hf:∀ x,f x=true↔gu (Ew n ns tl) (spreads (aI ns ns.length)) x) (hno:∀ x,x<n*256→kW st f (aB ns aa) x=false):oU ns n lt ed st:=by
 intro q hq
 have h8:=hg.le
 have hpos:=hg.pos
 apply Classical.byContradiction
 intro hsem
 have hL:dM (fun t=>lt (q t)):=fun t=>hlt _ (hq.2 t).1
 obtain ⟨S,hS,hR⟩:=mF hg.wf (fun t=>lt (q t))
 have vl:∀ t,bY (S t) ns.length<256:=fun t=>qK _ _ h8
 have JZ:f (q 0*256+bY (S 0) ns.length)=true:=by
  rw [hf]
  refine ⟨fun t=>q t*256+bY (S t) ns.length,rfl,fun t=>?_,nW fun c hc t=>?_⟩
  ·have v1:=vl (t+1)
   have d1:(q (t+1)*256+bY (S (t+1)) ns.length) / 256=q (t+1):=by omega
   have d2:(q (t+1)*256+bY (S (t+1)) ns.length) % 256=bY (S (t+1)) ns.length:=by omega
   have Nj:=(hq.2 (t+1)).1
   refine (Uw hA hn).2 ⟨by show q (t+1)*256+bY (S (t+1)) ns.length<n*256;omega,q t,(hq.2 t).1,by rw [d1];exact (hq.2 t).2,?_⟩
   rw [d2,wQ hg (hR.step t) (iA hg _)]
  ·obtain ⟨k,h1,h2,rfl⟩:=kr.1 hc
   have hnd:=jZ (ns:=ns) h1
   obtain ⟨_,h3,h4⟩:=lF hg.wf hnd
   obtain ⟨t',h5,h6⟩:=hR.kept k _ hnd t
   refine ⟨t',h5,?_⟩
   rw [qL (hR.step t' k _ hnd) h2] at h6
   have e1:=iA hg (S t') k h1
   have hen:gF (ai ns k)<ns.length:=by unfold gF;split <;> omega
   have e2:=iA hg (S t') _ hen
   have v1:=vl t'
   have d2:(q t'*256+bY (S t') ns.length) % 256=bY (S t') ns.length:=by omega
   simp only [tb] at e1 e2
   simp only [spread,jm,d2,e1,e2]
   exact h6
 have v0:=vl 0
 have hq0:=(hq.2 0).1
 have h9:=hno (q 0*256+bY (S 0) ns.length) (by omega)
 unfold kW at h9
 rw [show (q 0*256+bY (S 0) ns.length) / 256=q 0 by omega,show (q 0*256+bY (S 0) ns.length) % 256=bY (S 0) ns.length by omega,hq.1,JZ] at h9
 have hb:aB ns aa (bY (S 0) ns.length)=false:=by
  unfold aB
  have e1:(bY (S 0) ns.length).testBit (ns.length - 1)=S 0 (ns.length - 1):=iA hg (S 0) (ns.length - 1) (by omega)
  have e2:S 0 (ns.length - 1)=false:=by
   cases e:S 0 (ns.length - 1) with
   | false=>rfl
   | true=>exact absurd ((hS 0 (ns.length - 1)).1 e) hsem
  rw [e1,e2];simp
 rw [hb] at h9
 simp at h9
structure pM (ns:List Nd) (n:Nat) (lt:Nat→Nat) (ed:Nat→Nat→Bool) (st:Nat→Bool) (SA SB:List Nat):Prop where
 ne:SB≠[]
 V6:∀ p∈SA++SB,p<n
 begins:st ((SA++SB).headD 0)=true
 go:Goes (fun a b=>ed a b=true) (SA++SB) (SB.headD 0)
 adU:¬ dz (fun i=>i+1) (pg (SA.map lt) (SB.map lt)) ns (ns.length - 1) 0
 len:SA.length+SB.length≤20000
theorem Nw {E F:Nat→Nat→Prop} {g:Nat→Nat} (h:∀ a b,E a b→F (g a) (g b)):∀ {l:List Nat} {e:Nat},Goes E l e→Goes F (l.map g) (g e)
 | [],e,_=>trivial
 | a::l,e,⟨h1,h2⟩=>by
  refine ⟨?_,Nw h h2⟩
  have:=h _ _ h1
  cases l with
  | nil=>exact this
  | cons b l=>exact this
theorem Tt (hg:Good ns) (hl:gW ns (aI ns ns.length) aa) (hn:n≤6) (hlt:∀ i,i<n→lt i<8) (hA:uP lt ed n 0 tl) {A B:List Nat} {t:Nat} (hG:Goes (Ew n ns tl) A t) (hP:GU (Ew n ns tl) (spreads (aI ns ns.length)) t B) (hw:kW st f (aB ns aa) ((A++B).headD 0)=true) (hlen:A.length+B.length≤20000) (hpn:∀ p∈A++B,p<n*256) :
  pM ns n lt ed st (A.map (· / 256)) (B.map (· / 256)):=by
 have hb:0<B.length:=List.length_pos_iff.2 hP.ne
 obtain ⟨hq,hm⟩:=Fx hG hP
 obtain ⟨p1,p2,p3⟩:=Sj hg hl hn hlt hA hq hm
 obtain ⟨w1,w2,w3⟩:=PQ hw
 have h0:rowAt A B 0=(A++B).headD 0:=by
  unfold rowAt
  cases A with
  | nil=>
   simp
   cases B with
   | nil=>simp at hb
   | cons b B=>simp
  | cons a A=>simp
 have hE:∀ a b,Ew n ns tl a b→ed (a / 256) (b / 256)=true:=fun a b h=>by
  obtain ⟨_,i,h1,h2,h3⟩:=(Uw hA hn).1 h
  have hbl:=rJ hg.le (lt i) (b % 256)
  rw [h3,show (i*256+eT ns (lt i) (b % 256)) / 256=i by omega]
  exact h2
 have hh:B.headD 0=t:=hP.head
 have hhd:(B.map (· / 256)).headD 0=t / 256:=by
  cases B with
  | nil=>simp at hb
  | cons b B=>simp at hh ⊢;rw [hh]
 refine ⟨by simpa using hP.ne,fun p hp=>?_,?_,?_,?_,by simpa using hlen⟩
 ·rw [←List.map_append] at hp
  obtain ⟨x,hx,rfl⟩:=List.mem_map.1 hp
  have:=hpn x hx
  omega
 ·rw [←List.map_append]
  have:((A++B).map (· / 256)).headD 0=(A++B).headD 0 / 256:=by
   cases hAB:A++B with
   | nil=>rfl
   | cons a l=>rfl
  rw [this]
  exact w1
 ·rw [←List.map_append,hhd]
  exact Nw (g:=(· / 256)) hE (wJ (by rw [show B.headD t=t by cases B with | nil=>simp at hb | cons b B=>simpa using hh];exact hG) hP.go)
 ·have hx:pg ((A.map (· / 256)).map lt) ((B.map (· / 256)).map lt)=fun i=>lt (rowAt A B i / 256):=by
   funext i
   unfold pg rowAt
   simp only [List.length_map]
   by_cases c:i<A.length
   ·rw [if_pos c,if_pos c]
    simp [List.getD,List.getElem?_eq_getElem c]
   ·rw [if_neg c,if_neg c]
    have c2:(i - A.length) % B.length<B.length:=Nat.mod_lt _ hb
    simp [List.getD,List.getElem?_eq_getElem c2]
  rw [hx,←p3]
  rw [h0]
  rw [h0] at p2
  unfold aB at w3
  rw [p2,Bool.true_and] at w3
  rw [w3]
  simp
end
open Go.RowKit
theorem Kb {E:Nat→Nat→Prop}:∀ {l:List Nat} {e:Nat},Goes E l e→∀ i,i<l.length→E (l.getD i 0) (if i+1<l.length then l.getD (i+1) 0 else e)
 | [],e,_,i,hi=>by simp at hi
 | a::l,e,⟨h1,h2⟩,0,hi=>by
  cases l with
  | nil=>simpa using h1
  | cons b l=>simpa using h1
 | a::l,e,⟨h1,h2⟩,i+1,hi=>by
  have h:=Kb h2 i (by simpa using hi)
  simpa using h
section
variable {ns:List Nd} {n:Nat} {lt:Nat→Nat} {ed:Nat→Nat→Bool} {st:Nat→Bool} {SA SB:List Nat}
theorem Vk (h:pM ns n lt ed st SA SB) (i:Nat) (hi:i<(SA++SB).length):ed ((SA++SB).getD i 0) (if i+1<(SA++SB).length then (SA++SB).getD (i+1) 0 else SB.headD 0)=true:=Kb h.go i hi
theorem aca (h:pM ns n lt ed st SA SB) (i:Nat) (hi:i<(SA++SB).length):(SA++SB).getD i 0<n:=by
 refine h.V6 _ ?_
 rw [List.getD,List.getElem?_eq_getElem hi]
 exact List.getElem_mem _
theorem Eg (h:pM ns n lt ed st SA SB):0<SB.length:=List.length_pos_iff.2 h.ne
theorem YZ (hg:Good ns) (h:pM ns n lt ed st SA SB) (hlt:∀ i,i<n→lt i<8):mX SA.length ns ((SA++SB).map lt)=false:=by
 have h8:∀ x∈SA.map lt++SB.map lt,x<8:=fun x hx=>by
  rw [←List.map_append] at hx
  obtain ⟨p,hp,rfl⟩:=List.mem_map.1 hx
  exact hlt p (h.V6 p hp)
 have hi:=Ub (A:=SA.map lt) (B:=SB.map lt) hg (by simpa using Eg h) h8
 rw [List.length_map,←List.map_append] at hi
 cases e:mX SA.length ns ((SA++SB).map lt) with
 | false=>rfl
 | true=>exact absurd (hi.1 e) h.adU
theorem YY (h:pM ns n lt ed st SA SB):eH n ((SA++SB).map fun (p:Nat)=>(p:Int))=true:=nV.2 fun z hz=>by
 obtain ⟨p,hp,rfl⟩:=List.mem_map.1 hz
 have:=h.V6 p hp
 exact ⟨by omega,by omega⟩
end
theorem Sq {ns:List Nd} {n:Nat} {lt:Nat→Nat} {ed:Nat→Nat→Bool} {ss:List Int} {SA SB:List Nat} (h:pM ns n lt ed (su ss) SA SB):∃ j,j<ss.length∧ss.getD j 0=(((SA++SB).getD 0 0:Nat):Int):=by
 have hb:=vG.1 h.begins
 obtain ⟨j,hj,e⟩:=List.getElem_of_mem hb
 refine ⟨j,hj,?_⟩
 rw [List.getD,List.getElem?_eq_getElem hj]
 simp only [Option.getD_some]
 rw [e]
 congr 1
 cases (SA++SB) <;> rfl
section
variable (ns:List Nd) (vs:List Nat) (lt:Nat→Nat) (ed:Nat→Nat→Bool)
def Gr (k i y:Nat):List Nat:=if gB ns (aJ vs i) (lt k)=true∧ed k y=true then (toS ns vs i).map (fun j=>y*vs.length+j) else []
def mH (k i Y:Nat):List Nat:=(List.range Y).flatMap (Gr ns vs lt ed k i)
def qI (n q:Nat):List Nat:=mH ns vs lt ed (q / vs.length) (q % vs.length) n
def aaD (k a k':Nat):Prop:=a=lt k∧ed k k'=true
theorem xH (k i Y:Nat):mH ns vs lt ed k i (Y+1)=mH ns vs lt ed k i Y++Gr ns vs lt ed k i Y:=by simp [mH,List.range_succ]
theorem Ca {k i:Nat} (n:Nat) (hi:i<vs.length):qI ns vs lt ed n (k*vs.length+i)=mH ns vs lt ed k i n:=by unfold qI;rw [Br hi,qZ hi]
theorem Ol {k i y:Nat} (h:¬ (gB ns (aJ vs i) (lt k)=true∧ed k y=true)):Gr ns vs lt ed k i y=[]:=if_neg h
theorem IY {k i y:Nat} (h:gB ns (aJ vs i) (lt k)=true∧ed k y=true):Gr ns vs lt ed k i y=(toS ns vs i).map (fun j=>y*vs.length+j):=if_pos h
theorem Ku {k i:Nat} (h:gB ns (aJ vs i) (lt k)=false):∀ Y,mH ns vs lt ed k i Y=[]
 | 0=>rfl
 | Y+1=>by rw [xH,Ku h Y,Ol ns vs lt ed (fun c=>by rw [h] at c;exact absurd c.1 (by simp))];rfl
theorem adn (k i y:Nat):(Gr ns vs lt ed k i y).length≤vs.length:=by
 unfold Gr
 split
 ·rw [List.length_map];exact vC ns vs i
 ·simp
theorem wP (k i:Nat):∀ Y,(mH ns vs lt ed k i Y).length≤Y*vs.length
 | 0=>by simp [mH]
 | Y+1=>by
  rw [xH,List.length_append,Nat.succ_mul]
  have h1:=wP k i Y
  have h2:=adn ns vs lt ed k i Y
  omega
theorem XC (k i y b:Nat):(Gr ns vs lt ed k i y).count b≤1:=by
 unfold Gr
 split
 ·refine Dm ?_ b
  rw [List.nodup_iff_pairwise_ne,List.pairwise_map]
  exact (List.nodup_iff_pairwise_ne.1 (Jk ns vs i)).imp fun hne e=>hne (by omega)
 ·simp
theorem Gp (k i b:Nat):∀ Y,(mH ns vs lt ed k i Y).count b≤Y
 | 0=>by simp [mH]
 | Y+1=>by
  rw [xH,List.count_append]
  have h1:=Gp k i b Y
  have h2:=XC ns vs lt ed k i Y b
  omega
theorem aaC (k i b:Nat):∀ Y,b∈mH ns vs lt ed k i Y↔∃ y,y<Y∧b∈Gr ns vs lt ed k i y:=fun Y=>by
 unfold mH
 rw [List.mem_flatMap]
 simp
theorem Rf {n:Nat} (hlt:∀ i,i<n→lt i<8):Gz ns vs n (aaD lt ed) (qI ns vs lt ed n) (kY ns vs):=by
 refine ⟨fun k i hk hi b=>?_,fun p k i hp hk hi=>?_⟩
 ·rw [Ca ns vs lt ed n hi,aaC]
  constructor
  ·rintro ⟨y,hy,hb⟩
   by_cases c:gB ns (aJ vs i) (lt k)=true∧ed k y=true
   ·rw [IY ns vs lt ed c] at hb
    obtain ⟨j,hj,rfl⟩:=List.mem_map.1 hb
    exact ⟨lt k,y,j,hlt k hk,hy,⟨rfl,c.2⟩,l8.1 c.1,hj,rfl⟩
   ·rw [Ol ns vs lt ed c] at hb
    simp at hb
  ·rintro ⟨a,k',j,ha,hk',⟨rfl,h2⟩,hr,hj,rfl⟩
   refine ⟨k',hk',?_⟩
   rw [IY ns vs lt ed ⟨l8.2 hr,h2⟩]
   exact List.mem_map.2 ⟨j,hj,rfl⟩
 ·unfold kY
  rw [qZ hi]
theorem aaA {n:Nat} (hlt:∀ i,i<n→lt i<8) {st:Nat→Bool} (hd:Bool) :
  (∃ k,k<n∧st k=true∧∃ x sp,dM x∧sp 0=k∧X7 n (aaD lt ed) x sp∧(dz (fun i=>i+1) x ns (ns.length - 1) 0↔hd=true))↔∃ q,LG n ed st q∧(dz (fun i=>i+1) (fun t=>lt (q t)) ns (ns.length - 1) 0↔hd=true):=by
 constructor
 ·rintro ⟨k,hk,hs,x,sp,hL,h0,hm,hsem⟩
  have hx:x=fun t=>lt (sp t):=by funext t;exact (hm t).2.1
  refine ⟨sp,⟨by rw [h0];exact hs,fun t=>⟨(hm t).1,(hm t).2.2⟩⟩,?_⟩
  rw [←hx];exact hsem
 ·rintro ⟨q,⟨hs,hq⟩,hsem⟩
  exact ⟨q 0,(hq 0).1,hs,fun t=>lt (q t),q,fun t=>hlt _ (hq t).1,rfl,fun t=>⟨(hq t).1,rfl,(hq t).2⟩,hsem⟩
end
theorem aaB {ns:List Nd} (hg:Good ns) {vs:List Nat} (hL:eQ ns vs.length (aJ vs)) {n:Nat} {lt:Nat→Nat} {ed:Nat→Nat→Bool} {st:Nat→Bool} (hlt:∀ i,i<n→lt i<8) {good:Nat→Bool} (hgd:∀ x,good x=true↔∃ c,c<n*vs.length∧reach (Ed (n*vs.length) (qI ns vs lt ed n)) x c∧GN (n*vs.length) (qI ns vs lt ed n) ns.length (kY ns vs) c) :
  (∃ k,k<n∧st k=true∧∃ i,i<vs.length∧aJ vs i (ns.length - 1)=false∧good (k*vs.length+i)=true)↔¬ oU ns n lt ed st:=by
 have hp:=Rf ns vs lt ed hlt
 have h1:(∃ k,k<n∧st k=true∧∃ i,i<vs.length∧aJ vs i (ns.length - 1)=false∧good (k*vs.length+i)=true)↔∃ k,k<n∧st k=true∧∃ x sp,dM x∧sp 0=k∧X7 n (aaD lt ed) x sp∧(dz (fun i=>i+1) x ns (ns.length - 1) 0↔false=true):=by
  constructor
  ·rintro ⟨k,hk,hs,h⟩
   exact ⟨k,hk,hs,(zJ hg hL hp hgd hk false).1 h⟩
  ·rintro ⟨k,hk,hs,h⟩
   exact ⟨k,hk,hs,(zJ hg hL hp hgd hk false).2 h⟩
 rw [h1,aaA ns lt ed hlt false]
 constructor
 ·rintro ⟨q,hq,hsem⟩ hH
  exact absurd (hsem.1 (hH q hq)) (by simp)
 ·intro h
  have:∃ q,LG n ed st q∧¬ dz (fun i=>i+1) (fun t=>lt (q t)) ns (ns.length - 1) 0:=Classical.byContradiction fun c=>h fun q hq=>Classical.byContradiction fun c2=>c ⟨q,hq,c2⟩
  obtain ⟨q,hq,hns⟩:=this
  exact ⟨q,hq,fun h=>absurd h hns,fun h=>by cases h⟩
end Go.Proofs.YtjagijohfkffiabGreat
