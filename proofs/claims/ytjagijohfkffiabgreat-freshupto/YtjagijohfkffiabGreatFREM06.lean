import Derived.Test.YtjagijohfkffiabGreatFREM05
set_option maxHeartbeats 16000000
set_option maxRecDepth 100000
set_option linter.unusedSimpArgs false
namespace Go.Proofs.YtjagijohfkffiabGreat
def Step(ns:List Nd)(x:Nat)(S T:Nat->Bool):Prop:=∀ (k:Nat) (nd:Nd),ns[k]?=some nd->S k=bi nd.op x (S nd.l) (S nd.r) (T k) (T nd.l)
def ic(nd:Nd)(k:Nat)(S:Nat->Bool):Bool:=
 if nd.op=70 then S nd.l||!S k else if nd.op=85 then S nd.r||!S k else if nd.op=71 then S k||!S nd.l else if nd.op=82 then S k||!S nd.r else true
structure yN (ns:List Nd) (x:Nat->Nat) (S:Nat->Nat->Bool):Prop where
 step:∀ t,Step ns (x t) (S t) (S (t+1))
 kept:∀ (k:Nat) (nd:Nd),ns[k]?=some nd->∀ t,∃ t',t<=t'/\ic nd k (S t')=true
theorem yQ{A B x:Nat->Bool}(h:∀ t,x t=(B t||(A t&&x (t+1))))(hk:∀ t,∃ t',t<=t'/\(B t'=true\/x t'=false))(t:Nat):x t=true↔∃ s,B (t+s)=true/\∀ m,m<s->A (t+m)=true:=by
 constructor
 ·intro hx;obtain⟨t',ht,hd⟩:=hk t;obtain⟨d,rfl⟩:∃ d,t'=t+d:=⟨t' - t,by omega⟩;clear ht
  induction d generalizing t with
  | zero=>
   refine⟨0,?_,λm hm=>by omega⟩;rcases hd with h1 | h1
   ·exact h1
   ·rw[Nat.add_zero]at h1;rw[h1]at hx;simp at hx
  | succ d ih=>
   by_cases hB:B t=true
   ·exact⟨0,hB,λm hm=>by omega⟩
   ·rw[h t]at hx;simp only[hB,aBF,aBz,Bool.false_eq_true,false_or]at hx;obtain⟨s,h1,h2⟩:=ih (t+1) hx.2 (by rw[show t+1+d=t+(d+1) by omega];exact hd);refine⟨s+1,by rw[show t+(s+1)=t+1+s by omega];exact h1,λm hm=>?_⟩;cases m with
    | zero=>exact hx.1
    | succ m=>rw[show t+(m+1)=t+1+m by omega];exact h2 m (by omega)
 ·rintro ⟨s,h1,h2⟩
  induction s generalizing t with
  | zero=>rw[h t];simp at h1;simp[h1]
  | succ s ih=>
   have ha:=h2 0 (by omega);rw[Nat.add_zero]at ha;rw[h t,ha,ih (t+1) (by rw[show t+1+s=t+(s+1) by omega];exact h1) (λm hm=>by rw[show t+1+m=t+(m+1) by omega];exact h2 (m+1) (by omega))];simp
theorem MJ(lt:Nat->Nat)(nd:Nd)(rs:List (Nat->Prop))(t:Nat):kZ (λi=>i+1) lt nd rs t ↔
  if nd.op=49 then True else if nd.op=112 then (lt t).testBit 0=true else if nd.op=113 then (lt t).testBit 1=true else if nd.op=114 then (lt t).testBit 2=true
  else if nd.op=33 then ¬ rs.getD nd.l (λ_=>False) t else if nd.op=88 then rs.getD nd.l (λ_=>False) (t+1)
  else if nd.op=70 then ∃ s,rs.getD nd.l (λ_=>False) (t+s) else if nd.op=71 then ∀ s,rs.getD nd.l (λ_=>False) (t+s)
  else if nd.op=38 then rs.getD nd.l (λ_=>False) t/\rs.getD nd.r (λ_=>False) t else if nd.op=124 then rs.getD nd.l (λ_=>False) t\/rs.getD nd.r (λ_=>False) t
  else if nd.op=85 then ∃ s,rs.getD nd.r (λ_=>False) (t+s)/\∀ m,m<s->rs.getD nd.l (λ_=>False) (t+m)
  else if nd.op=82 then ∀ s,rs.getD nd.r (λ_=>False) (t+s)\/∃ m,m<s/\rs.getD nd.l (λ_=>False) (t+m) else False:=by
 unfold kZ;have e:∀ s i,it (λi=>i+1) s i=i+s:=by
  intro s
  induction s with
  | zero=>intro i;rfl
  | succ s ih=>intro i;simp only[it];rw[ih];omega
 simp only[e]
theorem Jp{ns:List Nd}(hw:gZ ns){x:Nat->Nat}{S:Nat->Nat->Bool}(h:yN ns x S)(k:Nat)(hk:k<ns.length)(t:Nat):S t k=true↔fA (λi=>i+1) x ns k t:=by
 induction k using Nat.strongRecOn generalizing t with
 | _ k ih=>
  have hn:ns[k]?=some ns[k]:=aAV hk;obtain⟨hc,h1,h2⟩:=dS hw hn;have st:=λt=>h.step t k _ hn;have kp:=h.kept k _ hn;rw[iW hn hw,MJ];generalize ns[k]=nd at *;have L:bF nd.op=false->∀ t,(S t nd.l=true↔(rows (λi=>i+1) x ns).getD nd.l (λ_=>False) t):=λhl t=>ih nd.l (h1 hl) (by have:=h1 hl;omega) t;have R:bQ nd.op=true->∀ t,(S t nd.r=true↔(rows (λi=>i+1) x ns).getD nd.r (λ_=>False) t):=λhr t=>ih nd.r (h2 hr) (by have:=h2 hr;omega) t;rcases hc with hc | hc | hc
  ·rcases lD hc with e | e | e | e | e <;> (simp only[e]at st ⊢;rw[st t];simp[bi])
  ·have L:=L (jN hc);rcases nu hc with e | e | e | e
   ·simp only[e]at st ⊢;rw[st t];simp[bi,<-L]
   ·simp only[e]at st ⊢;rw[st t];simp[bi,<-L]
   ·simp only[e,Nat.reduceEqDiff,if_false,if_true]at st ⊢;have key:=yQ (A:=λ_=>true) (B:=λt=>S t nd.l) (x:=λt=>S t k) (λt=>by rw[st t];simp[bi]) (λt=>by
     obtain⟨t',ht,hq⟩:=kp t;refine⟨t',ht,?_⟩;simp only[ic,e,if_true]at hq;simpa using hq) t
    rw[key];simp[L]
   ·simp only[e,Nat.reduceEqDiff,if_false,if_true]at st ⊢;have key:=yQ (A:=λ_=>true) (B:=λt=>!S t nd.l) (x:=λt=>!S t k) (λt=>by rw[st t];simp[bi]) (λt=>by
     obtain⟨t',ht,hq⟩:=kp t;refine⟨t',ht,?_⟩;simp only[ic,e,Nat.reduceEqDiff,if_false,if_true]at hq;simpa [or_comm] using hq) t
    have Jd:S t k=true↔¬ ∃ s,(!S (t+s) nd.l)=true/\∀ m,m<s->true=true:=by rw[<-key];simp
    rw[Jd];simp[<-L]
  ·have L:=L (l8 hc);have R:=R hc;rcases ky hc with e | e | e | e
   ·simp only[e]at st ⊢;rw[st t];simp[bi,<-L,<-R]
   ·simp only[e]at st ⊢;rw[st t];simp[bi,<-L,<-R]
   ·simp only[e,Nat.reduceEqDiff,if_false,if_true]at st ⊢;have key:=yQ (A:=λt=>S t nd.l) (B:=λt=>S t nd.r) (x:=λt=>S t k) (λt=>by rw[st t];simp[bi]) (λt=>by
     obtain⟨t',ht,hq⟩:=kp t;refine⟨t',ht,?_⟩;simp only[ic,e,Nat.reduceEqDiff,if_false,if_true]at hq;simpa using hq) t
    rw[key];simp[L,R]
   ·simp only[e,Nat.reduceEqDiff,if_false,if_true]at st ⊢;have key:=yQ (A:=λt=>!S t nd.l) (B:=λt=>!S t nd.r) (x:=λt=>!S t k) (λt=>by rw[st t];simp[bi]) (λt=>by
     obtain⟨t',ht,hq⟩:=kp t;refine⟨t',ht,?_⟩;simp only[ic,e,Nat.reduceEqDiff,if_false,if_true]at hq;simpa [or_comm] using hq) t
    have Jd:S t k=true↔¬ ∃ s,(!S (t+s) nd.r)=true/\∀ m,m<s->(!S (t+m) nd.l)=true:=by rw[<-key];simp
    rw[Jd];constructor
    ·intro h s;rw[<-R];cases hr:S (t+s) nd.r with
     | true=>exact aA2 rfl
     | false=>
      refine aA3 (aBp λhn=>h ⟨s,by simp[hr],λm hm=>?_⟩);cases hl:S (t+m) nd.l with
      | false=>rfl
      | true=>exact absurd ⟨m,hm,(L _).1 hl⟩ hn
    ·rintro h ⟨s,h3,h4⟩;rcases h s with h5 | ⟨m,hm,h5⟩
     ·rw[(R _).2 h5]at h3;simp at h3
     ·have:=h4 m hm;rw[(L _).2 h5]at this;simp at this
theorem pO{ns:List Nd}(hw:gZ ns)(x:Nat->Nat):∃ S:Nat->Nat->Bool,(∀ t k,S t k=true↔fA (λi=>i+1) x ns k t)/\yN ns x S:=by
 refine⟨λt k=>@decide _ (Classical.propDecidable (fA (λi=>i+1) x ns k t)),λt k=>by simp,?_,?_⟩
 ·intro t k nd hn;obtain⟨hc,h1,h2⟩:=dS hw hn;have e0:=iW (nx:=λi=>i+1) (lt:=x) hn hw t;have e1:=iW (nx:=λi=>i+1) (lt:=x) hn hw (t+1);rw[MJ]at e0 e1;rw[Bool.eq_iff_iff];simp only[aBR];rw[e0];have fx:∀ (P Q:Nat->Prop),(∃ s,Q (t+s)/\∀ m,m<s->P (t+m))↔Q t\/(P t/\∃ s,Q (t+1+s)/\∀ m,m<s->P (t+1+m)):=by
   intro P Q;constructor
   ·rintro ⟨s,h3,h4⟩;cases s with
    | zero=>exact aA2 h3
    | succ s=>exact aA3 ⟨h4 0 (by omega),s,by rw[show t+1+s=t+(s+1) by omega];exact h3,λm hm=>by rw[show t+1+m=t+(m+1) by omega];exact h4 (m+1) (by omega)⟩
   ·rintro (h3 | ⟨h3,s,h4,h5⟩)
    ·exact⟨0,h3,λm hm=>by omega⟩
    ·refine⟨s+1,by rw[show t+(s+1)=t+1+s by omega];exact h4,λm hm=>?_⟩;cases m with
     | zero=>exact h3
     | succ m=>rw[show t+(m+1)=t+1+m by omega];exact h5 m (by omega)
  have ga:∀ (P:Nat->Prop),(∀ s,P (t+s))↔P t/\∀ s,P (t+1+s):=by
   intro P;constructor
   ·intro h;exact⟨h 0,λs=>by rw[show t+1+s=t+(s+1) by omega];exact h _⟩
   ·rintro ⟨h,h'⟩ s;cases s with
    | zero=>exact h
    | succ s=>rw[show t+(s+1)=t+1+s by omega];exact h' s
  have fa:∀ (P:Nat->Prop),(∃ s,P (t+s))↔P t\/∃ s,P (t+1+s):=by
   intro P;constructor
   ·rintro ⟨s,h⟩;cases s with
    | zero=>exact aA2 h
    | succ s=>exact aA3 ⟨s,by rw[show t+1+s=t+(s+1) by omega];exact h⟩
   ·rintro (h | ⟨s,h⟩)
    ·exact⟨0,h⟩
    ·exact⟨s+1,by rw[show t+(s+1)=t+1+s by omega];exact h⟩
  have ra:∀ (P Q:Nat->Prop),(∀ s,Q (t+s)\/∃ m,m<s/\P (t+m))↔Q t/\(P t\/∀ s,Q (t+1+s)\/∃ m,m<s/\P (t+1+m)):=by
   intro P Q;constructor
   ·intro h;refine⟨(h 0).resolve_right (λ⟨m,hm,_⟩=>by omega),?_⟩;by_cases hp:P t
    ·exact aA2 hp
    ·refine aA3 λs=>?_;rcases h (s+1) with h3 | ⟨m,hm,h3⟩
     ·exact aA2 (by rw[show t+1+s=t+(s+1) by omega];exact h3)
     ·cases m with
      | zero=>exact absurd h3 hp
      | succ m=>exact aA3 ⟨m,by omega,by rw[show t+1+m=t+(m+1) by omega];exact h3⟩
   ·rintro ⟨hq,h⟩ s;cases s with
    | zero=>exact aA2 hq
    | succ s=>
     rcases h with hp | h
     ·exact aA3 ⟨0,by omega,hp⟩
     ·rcases h s with h3 | ⟨m,hm,h3⟩
      ·exact aA2 (by rw[show t+(s+1)=t+1+s by omega];exact h3)
      ·exact aA3 ⟨m+1,by omega,by rw[show t+(m+1)=t+1+m by omega];exact h3⟩
  rcases hc with hc | hc | hc
  ·rcases lD hc with e | e | e | e | e <;> simp[e,bi]
  ·rcases nu hc with e | e | e | e
   ·simp only[e,bi,Nat.reduceEqDiff,if_false,if_true,Bool.not_eq_true',decide_eq_false_iff_not];rfl
   ·simp only[e,bi,Nat.reduceEqDiff,if_false,if_true,aBR];rfl
   ·simp only[e,Nat.reduceEqDiff,if_false,if_true]at e1 ⊢;rw[fa];simp only[bi,Nat.reduceEqDiff,if_false,if_true,aBF,aBR,e1];rfl
   ·simp only[e,Nat.reduceEqDiff,if_false,if_true]at e1 ⊢;rw[ga];simp only[bi,Nat.reduceEqDiff,if_false,if_true,aBz,aBR,e1];rfl
  ·rcases ky hc with e | e | e | e
   ·simp only[e,bi,Nat.reduceEqDiff,if_false,if_true,aBz,aBR];rfl
   ·simp only[e,bi,Nat.reduceEqDiff,if_false,if_true,aBF,aBR];rfl
   ·simp only[e,Nat.reduceEqDiff,if_false,if_true]at e1 ⊢;rw[fx];simp only[bi,Nat.reduceEqDiff,if_false,if_true,aBF,aBz,aBR,e1];rfl
   ·simp only[e,Nat.reduceEqDiff,if_false,if_true]at e1 ⊢;rw[ra];simp only[bi,Nat.reduceEqDiff,if_false,if_true,aBF,aBz,aBR,e1];rfl
 ·intro k nd hn t;obtain⟨hc,h1,h2⟩:=dS hw hn;have e0:=iW (nx:=λi=>i+1) (lt:=x) hn hw t;rw[MJ]at e0;unfold ic;rcases hc with hc | hc | hc
  ·rcases lD hc with e | e | e | e | e <;> exact⟨t,aAU _,by simp[e]⟩
  ·rcases nu hc with e | e | e | e
   ·exact⟨t,aAU _,by simp[e]⟩
   ·exact⟨t,aAU _,by simp[e]⟩
   ·simp only[e,Nat.reduceEqDiff,if_false,if_true]at e0 ⊢;by_cases hs:fA (λi=>i+1) x ns k t
    ·obtain⟨s,h3⟩:=e0.1 hs;refine⟨t+s,by omega,?_⟩;simp only[aBF,aBR];exact aA2 h3
    ·exact⟨t,aAU _,by simp[hs]⟩
   ·simp only[e,Nat.reduceEqDiff,if_false,if_true]at e0 ⊢;by_cases hs:fA (λi=>i+1) x ns k t
    ·exact⟨t,aAU _,by simp[hs]⟩
    ·have:∃ s,¬ fA (λi=>i+1) x ns nd.l (t+s):=aBp λhn=>hs (e0.2 λs=>aBp λh=>hn ⟨s,h⟩);obtain⟨s,h3⟩:=this;exact⟨t+s,by omega,by simp[h3]⟩
  ·rcases ky hc with e | e | e | e
   ·exact⟨t,aAU _,by simp[e]⟩
   ·exact⟨t,aAU _,by simp[e]⟩
   ·simp only[e,Nat.reduceEqDiff,if_false,if_true]at e0 ⊢;by_cases hs:fA (λi=>i+1) x ns k t
    ·obtain⟨s,h3,_⟩:=e0.1 hs;refine⟨t+s,by omega,?_⟩;simp only[aBF,aBR];exact aA2 h3
    ·exact⟨t,aAU _,by simp[hs]⟩
   ·simp only[e,Nat.reduceEqDiff,if_false,if_true]at e0 ⊢;by_cases hs:fA (λi=>i+1) x ns k t
    ·exact⟨t,aAU _,by simp[hs]⟩
    ·have:∃ s,¬ fA (λi=>i+1) x ns nd.r (t+s):=aBp λhn=>hs (e0.2 λs=>aBp λh=>hn ⟨s,λh'=>h (aA2 h')⟩);obtain⟨s,h3⟩:=this;exact⟨t+s,by omega,by simp[h3]⟩
def acH(u:List Nat)(x:Nat->Nat):Prop:=∀ i,i<u.length->x i=u.getD i 0
def jY(x:Nat->Nat):Prop:=∀ t,x t<8
def dO(n:Nat)(S T:Nat->Bool):Prop:=∀ k,k<n->S k=T k
theorem dO.refl(n:Nat)(S:Nat->Bool):dO n S S:=λ_ _=>rfl
theorem dO.symm{n:Nat}{S T:Nat->Bool}(h:dO n S T):dO n T S:=λk hk=>(h k hk).symm
theorem dO.trans{n:Nat}{S T U:Nat->Bool}(h:dO n S T)(k:dO n T U):dO n S U:=λi hi=>(h i hi).trans (k i hi)
theorem oC{ns:List Nd}(hw:gZ ns){k:Nat}{nd:Nd}(hn:ns[k]?=some nd):k<ns.length/\(nd.l<ns.length)/\(nd.r<ns.length):=by
 have hk:=(aA1.1 hn).1;rcases hw k nd hn with⟨_,h1,h2⟩ | ⟨_,h1,h2⟩ | ⟨_,h1,h2⟩ <;> omega
theorem Cm{ns:List Nd}(hw:gZ ns){x:Nat}{S S' T T':Nat->Bool}(hS:dO ns.length S S')(hT:dO ns.length T T')(h:Step ns x S T):Step ns x S' T':=by
 intro k nd hn;obtain⟨h1,h2,h3⟩:=oC hw hn;rw[<-hS k h1,<-hS nd.l h2,<-hS nd.r h3,<-hT k h1,<-hT nd.l h2];exact h k nd hn
def chain(ns:List Nd):List Nat->(Nat->Bool)->Prop
 | [],S=>∃ x S',jY x/\yN ns x S'/\dO ns.length (S' 0) S
 | a::u,S=>a<8/\∃ T,Step ns a S T/\chain ns u T
def GY{α:Type}(a:α)(x:Nat->α):Nat->α
 | 0=>a
 | t+1=>x t
theorem abz{ns:List Nd}(hw:gZ ns){x:Nat->Nat}{S':Nat->Nat->Bool}(h:yN ns x S'){a:Nat}{S T:Nat->Bool}(hs:Step ns a S T)(hT:dO ns.length (S' 0) T):yN ns (GY a x) (GY S S'):=by
 refine⟨λt=>?_,λk nd hn t=>?_⟩
 ·cases t with
  | zero=>exact Cm hw (dO.refl _ _) hT.symm hs
  | succ t=>exact h.step t
 ·obtain⟨t',ht,hk⟩:=h.kept k nd hn t;exact⟨t'+1,by omega,hk⟩
theorem aby{ns:List Nd}{x:Nat->Nat}{S':Nat->Nat->Bool}(h:yN ns x S'):yN ns (λt=>x (t+1)) (λt=>S' (t+1)):=by
 refine⟨λt=>h.step (t+1),λk nd hn t=>?_⟩;obtain⟨t',ht,hk⟩:=h.kept k nd hn (t+1);refine⟨t' - 1,by omega,?_⟩;show ic nd k (S' (t' - 1+1))=true;rw[show t' - 1+1=t' by omega];exact hk
theorem rD{ns:List Nd}(hw:gZ ns):∀ (u:List Nat) (S:Nat->Bool),(chain ns u S↔∃ x S',jY x/\acH u x/\yN ns x S'/\dO ns.length (S' 0) S)
 | [],S=>by
  constructor
  ·rintro ⟨x,S',h1,h2,h3⟩;exact⟨x,S',h1,λi hi=>by simp at hi,h2,h3⟩
  ·rintro ⟨x,S',h1,_,h2,h3⟩;exact⟨x,S',h1,h2,h3⟩
 | a::u,S=>by
  constructor
  ·rintro ⟨ha,T,hs,hc⟩;obtain⟨x,S',h1,h2,h3,h4⟩:=(rD hw u T).1 hc;refine⟨GY a x,GY S S',λt=>?_,λi hi=>?_,abz hw h3 hs h4,dO.refl _ _⟩
   ·cases t with
    | zero=>exact ha
    | succ t=>exact h1 t
   ·cases i with
    | zero=>simp[GY]
    | succ i=>
     have:=h2 i (by simpa using hi);simpa [GY] using this
  ·rintro ⟨x,S',h1,h2,h3,h4⟩;have hx:=h2 0 (by simp);simp at hx;refine⟨by rw[<-hx];exact h1 0,S' 1,?_,?_⟩
   ·have:=h3.step 0;rw[hx]at this;exact Cm hw h4 (dO.refl _ _) this
   ·refine(rD hw u (S' 1)).2 ⟨λt=>x (t+1),λt=>S' (t+1),λt=>h1 (t+1),λi hi=>?_,aby h3,dO.refl _ _⟩;have:=h2 (i+1) (by simpa using hi);simpa using this
theorem KO{ns:List Nd}(hw:gZ ns){u:List Nat}{S:Nat->Bool}(h:chain ns u S):chain ns [] S:=by
 obtain⟨x,S',h1,_,h2,h3⟩:=(rD hw u S).1 h;exact⟨x,S',h1,h2,h3⟩
theorem Ar{ns:List Nd}(hw:gZ ns){u:List Nat}{S T:Nat->Bool}(e:dO ns.length S T)(h:chain ns u S):chain ns u T:=by
 rw[rD hw]at h ⊢;obtain⟨x,S',h1,h2,h3,h4⟩:=h;exact⟨x,S',h1,h2,h3,h4.trans e⟩
def May(ns:List Nd)(u:List Nat)(b:Bool):Prop:=∃ x,jY x/\acH u x/\(fA (λi=>i+1) x ns (ns.length - 1) 0↔b=true)
theorem VO{ns:List Nd}(hg:Good ns)(u:List Nat)(b:Bool):May ns u b↔∃ S:Nat->Bool,S (ns.length - 1)=b/\chain ns u S:=by
 have hp:=hg.pos;constructor
 ·rintro ⟨x,h1,h2,h3⟩;obtain⟨S,hS,hr⟩:=pO hg.wf x;refine⟨S 0,?_,(rD hg.wf u (S 0)).2 ⟨x,S,h1,h2,hr,dO.refl _ _⟩⟩;rw[Bool.eq_iff_iff,hS,h3]
 ·rintro ⟨S,hb,hc⟩;obtain⟨x,S',h1,h2,h3,h4⟩:=(rD hg.wf u S).1 hc;refine⟨x,h1,h2,?_⟩;rw[<-Jp hg.wf h3 _ (by omega),h4 _ (by omega),hb]
def pQ(ns:List Nd)(u:List Nat)(v:Nat):Prop:=(v=2/\¬ May ns u true)\/(v=1/\May ns u true/\¬ May ns u false)\/(v=0/\May ns u true/\May ns u false)
theorem Ae{ns:List Nd}{u:List Nat}{v v':Nat}(h:pQ ns u v)(h':pQ ns u v'):v=v':=by
 rcases h with⟨rfl,a⟩ | ⟨rfl,a,b⟩ | ⟨rfl,a,b⟩ <;> rcases h' with⟨rfl,c⟩ | ⟨rfl,c,d⟩ | ⟨rfl,c,d⟩ <;> first | rfl | exact absurd ‹May ns u true› ‹¬ May ns u true› | exact absurd ‹May ns u false› ‹¬ May ns u false›
def qg(E:Nat->Nat->Prop):Nat->Nat->Nat->Prop
 | 0,a,b=>a=b
 | L+1,a,b=>∃ c,E a c/\qg E L c b
def reach(E:Nat->Nat->Prop)(a b:Nat):Prop:=∃ L,qg E (L+1) a b
theorem Cw{E:Nat->Nat->Prop}:∀ (L M a b c:Nat),qg E L a b->qg E M b c->qg E (L+M) a c
 | 0,M,a,b,c,h,k=>by cases h;rw[aBo];exact k
 | L+1,M,a,b,c,⟨d,h1,h2⟩,k=>by
  rw[show L+1+M=L+M+1 by omega];exact⟨d,h1,Cw L M d b c h2 k⟩
theorem dU{E:Nat->Nat->Prop}{a b c:Nat}(h:reach E a b)(k:reach E b c):reach E a c:=by
 obtain⟨L,h⟩:=h;obtain⟨M,k⟩:=k;exact⟨L+M+1,by rw[show L+M+1+1=(L+1)+(M+1) by omega];exact Cw _ _ _ _ _ h k⟩
theorem kJ{E:Nat->Nat->Prop}{a b:Nat}(h:E a b):reach E a b:=⟨0,b,h,rfl⟩
theorem XU{E:Nat->Nat->Prop}{a b c:Nat}(h:E a b)(k:reach E b c):reach E a c:=dU (kJ h) k
def Walk(E:Nat->Nat->Prop)(p:Nat->Nat)(L a b:Nat):Prop:=p 0=a/\p L=b/\∀ i,i<L->E (p i) (p (i+1))
theorem Az{E:Nat->Nat->Prop}:∀ (L a b:Nat),qg E L a b->∃ p,Walk E p L a b
 | 0,a,b,h=>⟨λ_=>a,rfl,h,λi hi=>by omega⟩
 | L+1,a,b,⟨c,h1,h2⟩=>by
  obtain⟨p,p0,pL,pe⟩:=Az L c b h2;refine⟨λi=>match i with | 0=>a | i+1=>p i,rfl,pL,λi hi=>?_⟩
  cases i with
  | zero=>show E a (p 0);rw[p0];exact h1
  | succ i=>exact pe i (by omega)
theorem rP{E:Nat->Nat->Prop}{p:Nat->Nat}(h:∀ t,E (p t) (p (t+1)))(s d:Nat):reach E (p s) (p (s+d+1)):=by
 induction d with
 | zero=>exact kJ (h s)
 | succ d ih=>exact dU ih (kJ (h (s+d+1)))
def qA(p q:Nat->Nat)(L:Nat)(i:Nat):Nat:=if i<L then p i else q (i - L)
theorem M4{E:Nat->Nat->Prop}{p q:Nat->Nat}{L M a b c:Nat}(h:Walk E p L a b)(k:Walk E q M b c):Walk E (qA p q L) (L+M) a c:=by
 obtain⟨h0,hL,he⟩:=h;obtain⟨k0,kM,ke⟩:=k;refine⟨?_,?_,λi hi=>?_⟩
 ·unfold qA;by_cases h:0<L
  ·rw[aBU h];exact h0
  ·rw[aBT h];have:L=0:=by omega
   subst this;rw[Nat.sub_self,k0,<-hL,h0]
 ·unfold qA;rw[aBT (by omega),Nat.add_sub_cancel_left];exact kM
 ·unfold qA;by_cases h1:i+1<L
  ·rw[aBU (by omega),aBU h1];exact he i (by omega)
  ·rw[aBT h1];by_cases h2:i<L
   ·have e:i+1=L:=by omega
    rw[aBU h2,e,Nat.sub_self,k0,<-hL,<-e];exact he i h2
   ·rw[aBT h2,show i+1 - L=(i - L)+1 by omega];exact ke (i - L) (by omega)
theorem Et{E:Nat->Nat->Prop}{c:Nat}(hc:reach E c c):∀ l:List Nat,(∀ i∈l,reach E c i/\reach E i c)->∃ p L,0<L/\Walk E p L c c/\∀ i∈l,∃ s,s<L/\p s=i
 | [],_=>by
  obtain⟨L,h⟩:=hc;obtain⟨p,hp⟩:=Az _ _ _ h;exact⟨p,L+1,by omega,hp,λi hi=>by simp at hi⟩
 | i::l,hl=>by
  obtain⟨p,L,hL,hp,hm⟩:=Et hc l (λj hj=>hl j (List.mem_cons_of_mem _ hj));obtain⟨⟨M,h1⟩,⟨M',h2⟩⟩:=hl i (List.mem_cons_self ..);obtain⟨q,hq⟩:=Az _ _ _ h1;obtain⟨r,hr⟩:=Az _ _ _ h2;have hqr:=M4 hq hr;refine⟨qA p (qA q r (M+1)) L,L+(M+1+(M'+1)),by omega,M4 hp hqr,λj hj=>?_⟩;rcases List.mem_cons.1 hj with rfl | hj
  ·refine⟨L+(M+1),by omega,?_⟩;unfold qA;rw[aBT (by omega),Nat.add_sub_cancel_left,aBT (by omega),Nat.sub_self];exact hr.1
  ·obtain⟨s,hs,e⟩:=hm j hj;refine⟨s,by omega,?_⟩;unfold qA;rw[aBU hs];exact e
def Path(E:Nat->Nat->Prop)(q:Nat->Nat):Prop:=∀ t,E (q t) (q (t+1))
def uW(K:Nat->Nat->Prop)(m:Nat)(q:Nat->Nat):Prop:=∀ k,k<m->∀ t,∃ t',t<=t'/\K k (q t')
def xy(E:Nat->Nat->Prop)(K:Nat->Nat->Prop)(m c:Nat):Prop:=reach E c c/\∀ k,k<m->∃ i,reach E c i/\reach E i c/\K k i
theorem Kc{E:Nat->Nat->Prop}{K:Nat->Nat->Prop}{c:Nat}:∀ m,(∀ k,k<m->∃ i,reach E c i/\reach E i c/\K k i)->∃ l:List Nat,(∀ i∈l,reach E c i/\reach E i c)/\∀ k,k<m->∃ i∈l,K k i
 | 0,_=>⟨[],λi hi=>by simp at hi,λk hk=>by omega⟩
 | m+1,h=>by
  obtain⟨l,h1,h2⟩:=Kc m (λk hk=>h k (by omega));obtain⟨i,a,b,d⟩:=h m (by omega);refine⟨i::l,λj hj=>?_,λk hk=>?_⟩
  ·rcases List.mem_cons.1 hj with rfl | hj
   ·exact⟨a,b⟩
   ·exact h1 j hj
  ·by_cases e:k=m
   ·subst e;exact⟨i,List.mem_cons_self ..,d⟩
   ·obtain⟨j,hj,DR⟩:=h2 k (by omega);exact⟨j,List.mem_cons_of_mem _ hj,DR⟩
theorem ZO{E:Nat->Nat->Prop}{p:Nat->Nat}{L c:Nat}(hL:0<L)(h:Walk E p L c c):Path E (λt=>p (t % L)):=by
 obtain⟨h0,h1,he⟩:=h;intro t;have hm:=Nat.mod_lt t hL;show E (p (t % L)) (p ((t+1) % L));by_cases h2:t % L+1<L
 ·have e:(t+1) % L=t % L+1:=by
   rw[Nat.add_mod];by_cases h3:L=1
   ·omega
   ·rw[Nat.mod_eq_of_lt (show 1<L by omega),Nat.mod_eq_of_lt h2]
  rw[e];exact he _ hm
 ·have e:(t+1) % L=0:=by
   have e2:t % L+1=L:=by omega
   have:=Nat.div_add_mod t L;have e3:t+1=L*(t / L+1):=by rw[Nat.mul_add];omega
   rw[e3,Nat.mul_mod_right]
  rw[e,h0];have:=he (t % L) hm;rw[show t % L+1=L by omega,h1]at this;exact this
theorem aba{E:Nat->Nat->Prop}{K:Nat->Nat->Prop}{m c:Nat}(h:xy E K m c):∃ q,q 0=c/\Path E q/\uW K m q/\∃ L,0<L/\∀ t,q (t+L)=q t:=by
 obtain⟨hc,hk⟩:=h;obtain⟨l,h1,h2⟩:=Kc m hk;obtain⟨p,L,hL,hp,hm⟩:=Et hc l h1;refine⟨λt=>p (t % L),by simp[hp.1],ZO hL hp,λk hk t=>?_,L,hL,λt=>by simp⟩;obtain⟨i,hi,hK⟩:=h2 k hk;obtain⟨s,hs,e⟩:=hm i hi;refine⟨t*L+s,?_,?_⟩
 ·have:t*1<=t*L:=Nat.mul_le_mul_left t hL;omega
 ·show K k (p ((t*L+s) % L));rw[Nat.mul_comm,Nat.mul_add_mod,Nat.mod_eq_of_lt hs,e];exact hK
theorem EH{q:Nat->Nat}{P:Nat->Prop}{n:Nat}(hn:∀ t,q t<n)(h:∀ t,∃ t',t<=t'/\P (q t')):∃ v,v<n/\P v/\∀ t,∃ t',t<=t'/\q t'=v:=by
 refine aBp λhc=>?_;have key:∀ j,j<=n->∃ T,∀ t,T<=t->∀ v,v<j->P v->q t≠v:=by
  intro j
  induction j with
  | zero=>intro _;exact⟨0,λt _ v hv=>by omega⟩
  | succ j ih=>
   intro hj;obtain⟨T,hT⟩:=ih (by omega);by_cases hP:P j
   ·have:∃ T',∀ t,T'<=t->q t≠j:=aBp λhx=>hc ⟨j,by omega,hP,λt=>aBp λhy=>hx ⟨t,λt' ht e=>hy ⟨t',ht,e⟩⟩⟩;obtain⟨T',hT'⟩:=this;refine⟨max T T',λt ht v hv hPv=>?_⟩;by_cases e:v=j
    ·subst e;exact hT' t (by omega)
    ·exact hT t (by omega) v (by omega) hPv
   ·refine⟨T,λt ht v hv hPv=>?_⟩;by_cases e:v=j
    ·subst e;exact absurd hPv hP
    ·exact hT t ht v (by omega) hPv
 obtain⟨T,hT⟩:=key n (aAU _);obtain⟨t',ht,hp⟩:=h T;exact hT t' ht (q t') (hn t') hp rfl
theorem ZX{E:Nat->Nat->Prop}{K:Nat->Nat->Prop}{m n:Nat}{q:Nat->Nat}(hq:Path E q)(hn:∀ t,q t<n)(hm:uW K m q):∃ c,c<n/\reach E (q 0) c/\xy E K m c:=by
 obtain⟨c,hc,_,hv⟩:=EH (P:=λ_=>True) hn (λt=>⟨t,aAU _,trivial⟩);have to:∀ s v,(∀ t,∃ t',t<=t'/\q t'=v)->reach E (q s) v:=by
  intro s v hv;obtain⟨t',ht,e⟩:=hv (s+1);obtain⟨d,rfl⟩:∃ d,t'=s+d+1:=⟨t' - s - 1,by omega⟩;rw[<-e];exact rP hq s d
 have back:∀ u v,(∀ t,∃ t',t<=t'/\q t'=u)->(∀ t,∃ t',t<=t'/\q t'=v)->reach E u v:=by
  intro u v hu hv;obtain⟨s,_,e⟩:=hu 0;rw[<-e];exact to s v hv
 refine⟨c,hc,to 0 c hv,back c c hv hv,λk hk=>?_⟩;obtain⟨i,_,hK,hi⟩:=EH (P:=K k) hn (hm k hk);exact⟨i,back c i hv hi,back i c hi hv,hK⟩
theorem Ap{E:Nat->Nat->Prop}{K:Nat->Nat->Prop}{m n a:Nat}(hE:∀ a b,E a b->b<n)(ha:a<n):(∃ q,q 0=a/\Path E q/\uW K m q)↔∃ c,c<n/\reach E a c/\xy E K m c:=by
 constructor
 ·rintro ⟨q,q0,hq,hm⟩;have hn:∀ t,q t<n:=λt=>by
   cases t with
   | zero=>rw[q0];exact ha
   | succ t=>exact hE _ _ (hq t)
  obtain⟨c,h1,h2,h3⟩:=ZX hq hn hm;rw[q0]at h2;exact⟨c,h1,h2,h3⟩
 ·rintro ⟨c,_,⟨L,h1⟩,h2⟩;obtain⟨p,hp⟩:=Az _ _ _ h1;obtain⟨q,q0,hq,hm,_⟩:=aba h2;refine⟨qA p q (L+1),?_,?_,?_⟩
  ·unfold qA;rw[aBU (by omega)];exact hp.1
  ·intro t;unfold qA;by_cases h3:t+1<L+1
   ·rw[aBU (by omega),aBU h3];exact hp.2.2 t (by omega)
   ·rw[aBT h3];by_cases h4:t<L+1
    ·have e:t+1=L+1:=by omega
     rw[aBU h4,e,Nat.sub_self,q0];have:=hp.2.2 t h4;rw[e,hp.2.1]at this;exact this
    ·rw[aBT h4,show t+1 - (L+1)=(t - (L+1))+1 by omega];exact hq _
  ·intro k hk t;obtain⟨t',ht,h3⟩:=hm k hk t;refine⟨L+1+t',by omega,?_⟩;unfold qA;rw[aBT (by omega),Nat.add_sub_cancel_left];exact h3
def iq(nd:Nd)(k:Nat)(S:Nat->Bool):Bool:=
 if nd.op=48 then !S k else if nd.op=49 then S k else if nd.op=33 then S k !=S nd.l else if nd.op=38 then S k==(S nd.l&&S nd.r) else if nd.op=124 then S k==(S nd.l||S nd.r)
 else if nd.op=70 then S k||!S nd.l else if nd.op=71 then !S k||S nd.l else if nd.op=85 then (S k||!S nd.r)&&(!S k||S nd.l||S nd.r) else if nd.op=82 then (!S k||S nd.r)&&(S k||!S nd.l||!S nd.r) else true
def nR(nd:Nd)(k:Nat)(S:Nat->Bool)(x:Nat):Bool:=if nd.op=112\/nd.op=113\/nd.op=114 then jU x nd.op==S k else true
def ig(nd:Nd)(k:Nat)(S T:Nat->Bool):Bool:=
 if nd.op=88 then S k==T nd.l else if nd.op=70 then S k==(S nd.l||T k) else if nd.op=71 then S k==(S nd.l&&T k) else if nd.op=85 then S k==(S nd.r||(S nd.l&&T k)) else if nd.op=82 then S k==(S nd.r&&(S nd.l||T k)) else true
def zJ(ns:List Nd)(S:Nat->Bool):Prop:=∀ k,k<ns.length->iq (aA ns k) k S=true
def qy(ns:List Nd)(S:Nat->Bool)(x:Nat):Prop:=∀ k,k<ns.length->nR (aA ns k) k S x=true
def CX(ns:List Nd)(S T:Nat->Bool):Prop:=∀ k,k<ns.length->ig (aA ns k) k S T=true
theorem jo{ns:List Nd}{k:Nat}(h:k<ns.length):ns[k]?=some (aA ns k):=by
 simp[aA,List.getD,aAV h]
theorem Mf{ns:List Nd}{k:Nat}{nd:Nd}(h:ns[k]?=some nd):k<ns.length/\aA ns k=nd:=by
 obtain⟨hk,e⟩:=aA1.1 h;exact⟨hk,by simp[aA,List.getD,h]⟩
theorem NQ{nd:Nd}(hc:bF nd.op=true\/dY nd.op=true\/bQ nd.op=true)(k x:Nat)(S T:Nat->Bool):S k=bi nd.op x (S nd.l) (S nd.r) (T k) (T nd.l)↔iq nd k S=true/\nR nd k S x=true/\ig nd k S T=true:=by
 unfold iq nR ig;rcases hc with hc | hc | hc
 ·rcases lD hc with e | e | e | e | e
  ·simp[e,bi]
  ·simp[e,bi]
  ·simp[e,bi,jU];exact eq_comm
  ·simp[e,bi,jU];exact eq_comm
  ·simp[e,bi,jU];exact eq_comm
 ·rcases nu hc with e | e | e | e
  ·simp[e,bi];cases S k <;> cases S nd.l <;> simp
  ·simp[e,bi]
  ·simp[e,bi];cases S k <;> cases S nd.l <;> simp
  ·simp[e,bi];cases S k <;> cases S nd.l <;> simp
 ·rcases ky hc with e | e | e | e
  ·simp[e,bi]
  ·simp[e,bi]
  ·simp[e,bi];cases S k <;> cases S nd.l <;> cases S nd.r <;> simp
  ·simp[e,bi];cases S k <;> cases S nd.l <;> cases S nd.r <;> simp
theorem kg{ns:List Nd}(hw:gZ ns)(x:Nat)(S T:Nat->Bool):Step ns x S T↔zJ ns S/\qy ns S x/\CX ns S T:=by
 constructor
 ·intro h;have key:=λk (hk:k<ns.length)=>(NQ (dS hw (jo hk)).1 k x S T).1 (h k _ (jo hk));exact⟨λk hk=>(key k hk).1,λk hk=>(key k hk).2.1,λk hk=>(key k hk).2.2⟩
 ·rintro ⟨h1,h2,h3⟩ k nd hn;obtain⟨hk,e⟩:=Mf hn;subst e;exact(NQ (dS hw hn).1 k x S T).2 ⟨h1 k hk,h2 k hk,h3 k hk⟩
def zQ(S:Nat->Bool):Nat->Nat
 | 0=>0
 | j+1=>(if S j then 2 ^ j else 0)+zQ S j
theorem TC(S:Nat->Bool)(n:Nat):zQ S n<2 ^ n:=by
 induction n with
 | zero=>simp[zQ]
 | succ n ih=>simp only[zQ,Nat.pow_succ];split <;> omega
theorem abS(S:Nat->Bool)(n k:Nat)(hk:k<n):(zQ S n).testBit k=S k:=by
 induction n with
 | zero=>omega
 | succ n ih=>
  simp only[zQ];have hb:=TC S n;by_cases e:k=n
  ·subst e;cases hS:S k with
   | true=>rw[aBU rfl,Nat.testBit_two_pow_add_eq,Nat.testBit_lt_two_pow hb];rfl
   | false=>rw[aBT (by simp),aBo,Nat.testBit_lt_two_pow hb]
  ·cases hS:S n with
   | true=>rw[aBU rfl,Nat.testBit_two_pow_add_gt (by omega)];exact ih (by omega)
   | false=>rw[aBT (by simp),aBo];exact ih (by omega)
structure Hg (ns:List Nd) (N:Nat) (m:Nat->Nat->Bool):Prop where
 fits:∀ i,i<N->zJ ns (m i)
 read:∀ i,i<N->∃ x,x<8/\qy ns (m i) x
 all:∀ S x,x<8->zJ ns S->qy ns S x->∃ i,i<N/\dO ns.length S (m i)
theorem Dc{ns:List Nd}(hw:gZ ns){S T:Nat->Bool}(h:dO ns.length S T)(hf:zJ ns S):zJ ns T:=λk hk=>by
 obtain⟨h1,h2,h3⟩:=oC hw (jo hk);have:=hf k hk;unfold iq at this ⊢;rw[<-h k h1,<-h _ h2,<-h _ h3];exact this
theorem Cv{ns:List Nd}{S T:Nat->Bool}(h:dO ns.length S T){x:Nat}(hf:qy ns S x):qy ns T x:=λk hk=>by
 have:=hf k hk;unfold nR at this ⊢;rw[<-h k hk];exact this
theorem FL{ns:List Nd}(hw:gZ ns){S T S' T':Nat->Bool}(h:dO ns.length S S')(h':dO ns.length T T')(hf:CX ns S T):CX ns S' T':=λk hk=>by
 obtain⟨h1,h2,h3⟩:=oC hw (jo hk);have:=hf k hk;unfold ig at this ⊢;rw[<-h k h1,<-h _ h2,<-h _ h3,<-h' k h1,<-h' _ h2];exact this
theorem Kh{ns:List Nd}(hw:gZ ns){S T:Nat->Bool}(h:dO ns.length S T){k:Nat}(hk:k<ns.length):ic (aA ns k) k S=ic (aA ns k) k T:=by
 obtain⟨h1,h2,h3⟩:=oC hw (jo hk);unfold ic;rw[h k h1,h _ h2,h _ h3]
def GX(ns:List Nd)(N:Nat)(m:Nat->Nat->Bool)(i j:Nat):Prop:=i<N/\j<N/\CX ns (m i) (m j)
def Qg(ns:List Nd)(m:Nat->Nat->Bool)(k i:Nat):Prop:=ic (aA ns k) k (m i)=true
theorem aan{ns:List Nd}(hw:gZ ns){N:Nat}{m:Nat->Nat->Bool}(hA:Hg ns N m){i:Nat}(hi:i<N) :
  chain ns [] (m i)↔∃ q,q 0=i/\Path (GX ns N m) q/\uW (Qg ns m) ns.length q:=by
 constructor
 ·rintro ⟨x,S,h1,h2,h3⟩;have ex:∀ t,∃ j,j<N/\dO ns.length (S t) (m j):=λt=>by
   obtain⟨f1,f2,_⟩:=(kg hw (x t) (S t) (S (t+1))).1 (h2.step t);exact hA.all (S t) (x t) (h1 t) f1 f2
  let q:Nat->Nat:=λt=>if t=0 then i else Classical.choose (ex t)
  have hq:∀ t,q t<N/\dO ns.length (S t) (m (q t)):=λt=>by
   by_cases e:t=0
   ·subst e;exact⟨hi,h3⟩
   ·have e2:q t=Classical.choose (ex t):=aBT e;rw[e2];exact Classical.choose_spec (ex t)
  refine⟨q,aBU rfl,λt=>⟨(hq t).1,(hq (t+1)).1,?_⟩,λk hk t=>?_⟩
  ·obtain⟨_,_,f3⟩:=(kg hw (x t) (S t) (S (t+1))).1 (h2.step t);exact FL hw (hq t).2 (hq (t+1)).2 f3
  ·obtain⟨t',ht,h4⟩:=h2.kept k _ (jo hk) t;exact⟨t',ht,by unfold Qg;rw[<-Kh hw (hq t').2 hk];exact h4⟩
 ·rintro ⟨q,q0,hq,hm⟩;have hN:∀ t,q t<N:=λt=>(hq t).1
  let x:Nat->Nat:=λt=>Classical.choose (hA.read (q t) (hN t))
  have hx:∀ t,x t<8/\qy ns (m (q t)) (x t):=λt=>Classical.choose_spec (hA.read (q t) (hN t));refine⟨x,λt=>m (q t),λt=>(hx t).1,⟨λt=>?_,λk nd hn t=>?_⟩,by show dO _ (m (q 0)) (m i);rw[q0];exact dO.refl _ _⟩
  ·exact(kg hw _ _ _).2 ⟨hA.fits _ (hN t),(hx t).2,(hq t).2.2⟩
  ·obtain⟨hk,e⟩:=Mf hn;obtain⟨t',ht,h4⟩:=hm k hk t;subst e;exact⟨t',ht,h4⟩
theorem aao{ns:List Nd}(hw:gZ ns){N:Nat}{m:Nat->Nat->Bool}(hA:Hg ns N m){i:Nat}(hi:i<N) :
  chain ns [] (m i)↔∃ c,c<N/\reach (GX ns N m) i c/\xy (GX ns N m) (Qg ns m) ns.length c:=by
 rw[aan hw hA hi];exact Ap (λa b h=>h.2.1) hi
structure gB (ns:List Nd) (M:Nat) (m:Nat->Nat->Bool):Prop where
 live:∀ i,i<M->chain ns [] (m i)
 all:∀ S,chain ns [] S->∃ i,i<M/\dO ns.length S (m i)
def NG(ns:List Nd)(M:Nat)(m:Nat->Nat->Bool)(P:Nat->Prop)(a:Nat)(j:Nat):Prop:=j<M/\∃ i,i<M/\P i/\qy ns (m i) a/\CX ns (m i) (m j)
def sS(ns:List Nd)(M:Nat)(m:Nat->Nat->Bool):List Nat->(Nat->Prop)->Nat->Prop
 | [],P=>P
 | a::u,P=>sS ns M m u (NG ns M m P a)
theorem Df{ns:List Nd}(hw:gZ ns){S:Nat->Bool}(h:chain ns [] S):zJ ns S:=by
 obtain⟨x,S',_,h2,h3⟩:=h;exact Dc hw h3 ((kg hw _ _ _).1 (h2.step 0)).1
theorem Pq{ns:List Nd}(hw:gZ ns){M:Nat}{m:Nat->Nat->Bool}(hL:gB ns M m):∀ (u:List Nat) (P:Nat->Prop),(∀ x∈u,x<8)->(∀ i,P i->i<M)->((∃ j,sS ns M m u P j)↔∃ i,P i/\chain ns u (m i))
 | [],P,_,hP=>⟨λ⟨j,h⟩=>⟨j,h,hL.live j (hP j h)⟩,λ⟨i,h,_⟩=>⟨i,h⟩⟩
 | a::u,P,hu,hP=>by
  show (∃ j,sS ns M m u (NG ns M m P a) j)↔_;rw[Pq hw hL u _ (λx hx=>hu x (List.mem_cons_of_mem _ hx)) (λi h=>h.1)];constructor
  ·rintro ⟨j,⟨hj,i,hi,hp,hr,hf⟩,hc⟩;exact⟨i,hp,hu a (List.mem_cons_self ..),m j,(kg hw _ _ _).2 ⟨Df hw (hL.live i hi),hr,hf⟩,hc⟩
  ·rintro ⟨i,hp,_,T,hs,hc⟩;obtain⟨j,hj,e⟩:=hL.all T (KO hw hc);obtain⟨_,f2,f3⟩:=(kg hw _ _ _).1 hs;exact⟨j,⟨hj,i,hP i hp,hp,f2,FL hw (dO.refl _ _) e f3⟩,Ar hw e hc⟩
theorem Qy{ns:List Nd}(hg:Good ns){M:Nat}{m:Nat->Nat->Bool}(hL:gB ns M m)(u:List Nat)(hu:∀ x∈u,x<8)(b:Bool) :
  (∃ j,sS ns M m u (λi=>i<M/\m i (ns.length - 1)=b) j)↔May ns u b:=by
 have hp:=hg.pos;rw[Pq hg.wf hL u _ hu (λi h=>h.1),VO hg];constructor
 ·rintro ⟨i,⟨_,h⟩,hc⟩;exact⟨m i,h,hc⟩
 ·rintro ⟨S,h,hc⟩;obtain⟨i,hi,e⟩:=hL.all S (KO hg.wf hc);exact⟨i,⟨hi,by rw[<-e _ (by omega)];exact h⟩,Ar hg.wf e hc⟩
open Go.RowKit
set_option linter.unusedVariables false
def dG(bs:List Nat)(k:Nat):Nat:=bs.getD k 0
structure FR (w:World) (F gp cap:Nat) (ns:List Nd) (bs:List Nat):Prop where
 c0:w.cell? ⟨F,0,none⟩=some (.slice (some ⟨gp,0,none⟩) ns.length cap)
 hcap:ns.length<=cap
 Rl:F<w.heap.size
 ltp:gp<w.heap.size
 ptr:∀ k,k<ns.length->w.cell? ⟨gp,k,none⟩=some (.pointer (some ⟨dG bs k,0,none⟩))
 op:∀ k,k<ns.length->w.cell? ⟨dG bs k,0,none⟩=some (.int .u8 (aA ns k).op)
 lp:∀ k,k<ns.length->bF (aA ns k).op=false->w.cell? ⟨dG bs k,1,none⟩=some (.pointer (some ⟨dG bs (aA ns k).l,0,none⟩))
 rp:∀ k,k<ns.length->bQ (aA ns k).op=true->w.cell? ⟨dG bs k,2,none⟩=some (.pointer (some ⟨dG bs (aA ns k).r,0,none⟩))
 nn:∀ k,k<ns.length->w.cell? ⟨dG bs k,3,none⟩=some (.int .i64 k)
 ltb:∀ k,k<ns.length->dG bs k<w.heap.size
theorem FR.below{w w':World}{F gp cap:Nat}{ns:List Nd}{bs:List Nat}(h:FR w F gp cap ns bs)(hb:Below w.heap.size w w'):FR w' F gp cap ns bs:=
 ⟨(hb.cell (p:=⟨F,0,none⟩) h.Rl).trans h.c0,h.hcap,aBi h.Rl hb.size,aBi h.ltp hb.size,λk hk=>(hb.cell (p:=⟨gp,k,none⟩) h.ltp).trans (h.ptr k hk),
  λk hk=>(hb.cell (p:=⟨dG bs k,0,none⟩) (h.ltb k hk)).trans (h.op k hk),λk hk e=>(hb.cell (p:=⟨dG bs k,1,none⟩) (h.ltb k hk)).trans (h.lp k hk e),λk hk e=>(hb.cell (p:=⟨dG bs k,2,none⟩) (h.ltb k hk)).trans (h.rp k hk e),
  λk hk=>(hb.cell (p:=⟨dG bs k,3,none⟩) (h.ltb k hk)).trans (h.nn k hk),λk hk=>aBi (h.ltb k hk) hb.size⟩
theorem agd{w:World}{F:Nat}{ns:List Nd}{bs:List Nat}(h:Fm w F ns bs)(hp:0<ns.length):∃ gp cap,FR w F gp cap ns bs:=by
 obtain⟨ao,cap,hc,own⟩:=h.c0;obtain⟨gp,rfl,_,hg,hcap⟩:=Ba own hp;have part:∀ k,k<ns.length->w.heap[dG bs k]?=some (bO bs k (aA ns k)):=λk hk=>by
  obtain⟨b,hb,_,hh⟩:=h.parts k _ (jo hk);have:dG bs k=b:=by simp[dG,List.getD,hb]
  rw[this];exact hh
 refine⟨gp,cap,hc,hcap,h.r9,hg,λk hk=>?_,λk hk=>?_,λk hk e=>?_,λk hk e=>?_,λk hk=>?_,λk hk=>dB (part k hk)⟩
 ·have DR:k<bs.length:=by rw[h.len];exact hk
  rw[own.cellAt k (by omega)];simp[kV,dG,List.getD,aAV DR]
 ·rw[aBJ w _ _ _ _ _ (part k hk)];rfl
 ·rw[aBJ w _ _ _ _ _ (part k hk)];simp[kK,e,dG]
 ·rw[aBJ w _ _ _ _ _ (part k hk)];simp[kI,e,dG]
 ·rw[aBJ w _ _ _ _ _ (part k hk)];rfl
theorem Rb.drewN{w:World}{g n:Nat}{f:Nat->Bool}(h:Rb w g n f)(m:Nat):Rb (w.drewN m) g n f:=⟨h.lt,h.cell⟩
def Gh(ns:List Nd)(p:Nd->Nat->Bool):Bool:=(List.range ns.length).all λk=>p (aA ns k) k
theorem qN{ns:List Nd}{p:Nd->Nat->Bool}:Gh ns p=true↔∀ k,k<ns.length->p (aA ns k) k=true:=by simp[Gh,List.all_eq_true]
theorem MP{ns:List Nd}{p:Nd->Nat->Bool}{k:Nat}(hk:k<ns.length)(h:p (aA ns k) k=false):Gh ns p=false:=by
 cases e:Gh ns p with
 | false=>rfl
 | true=>rw[qN]at e;rw[e k hk]at h;cases h
def zK(ns:List Nd)(S:Nat->Bool):Bool:=Gh ns λnd k=>iq nd k S
def jL(ns:List Nd)(S:Nat->Bool)(x:Nat):Bool:=Gh ns λnd k=>nR nd k S x
def CZ(ns:List Nd)(S T:Nat->Bool):Bool:=Gh ns λnd k=>ig nd k S T
theorem abq{ns:List Nd}{S:Nat->Bool}:zK ns S=true↔zJ ns S:=qN
theorem qZ{ns:List Nd}{S:Nat->Bool}{x:Nat}:jL ns S x=true↔qy ns S x:=qN
theorem CY{ns:List Nd}{S T:Nat->Bool}:CZ ns S T=true↔CX ns S T:=qN
def o8:Code->Option Code
 | .loop c=>some c
 | .seq a b=>match o8 a with
  | some c=>some c
  | none=>o8 b
 | .block _ c=>o8 c
 | .scope c=>o8 c
 | .cond _ a b=>match o8 a with
  | some c=>some c
  | none=>o8 b
 | _=>none
def eT(f:Func):Code:=(f.body.bind o8).getD .skip
theorem Pm{a:Array Value}{n:Nat}(h:a.size=n):a=((List.range n).map (λi=>a.getD i undef)).toArray:=by
 apply Array.ext
 ·simp[h]
 ·intro i h1 h2;simp[h1]
def GI(size:Nat)(fixed:List (Nat × Value))(c n:Nat)(P:Nat->Prop)(w:World)(a:Act)(w':World):Prop:=
 a.defers=[]/\a.tmps.size=size/\(∀ x∈fixed,a.tmps.getD x.1 undef=x.2)/\∃ j,j<=n/\a.tmps.getD c undef=.int .i64 (j:Nat)/\P j/\∃ m,w'=w.drewN m
def GM(c n:Nat)(a:Act)(_:World):Nat:=n - (intOf (a.tmps.getD c undef)).toNat
