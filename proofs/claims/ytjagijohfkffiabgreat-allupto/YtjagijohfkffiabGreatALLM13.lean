import Derived.Test.YtjagijohfkffiabGreatALLM10
import Derived.Test.YtjagijohfkffiabGreatALLM12
import Derived.ProofKit
import Derived.OpenShut
import Derived.ShutString
import Derived.ChangeOld
import Derived.RowKit
import Derived.Deep.QuietTactic
import Derived.BigQuiet
set_option maxHeartbeats 16000000
set_option maxRecDepth 100000
namespace Go.Proofs.YtjagijohfkffiabGreat.holdings
open Go.ChangeShapes Go.WideShapes Go.ChangeAt Go.RowKit
open Go.ChangeMaps (open_string shut_string)
set_option linter.unusedVariables false
theorem Nc (s:ByteArray) (a1 a2:Option Addr) (l1 c1 l2 c2:Nat) (z1 z2:List Int) (w:World) (hm:s.size≤maxLen) (h1:Ints w a1 l1 c1 z1) (h2:Ints w a2 l2 c2 z2) :
  Calls Tryz.prog 24 #[.string s,.slice a1 l1 c1,.slice a2 l2 c2] w fun e w'=>e=.returned (.bool true)∧Below w.heap.size w w':=by
 have C1:=WO s a1 a2 l1 c1 l2 c2 z1 z2 w hm h1 h2
 have C2:=fun W (b:Below w.heap.size w W)=>Te s a1 a2 l1 c1 l2 c2 z1 z2 W hm (h1.below b) (h2.below b)
 generalize gT s z1 z2=v at *
 generalize fZ s z1 z2=er at *
 go_enter Tryz.func24,Tryz.ntmps24
 go_wp2_with fail
 refine C1.mono ?_
 rintro e w1 ⟨rfl,hb1⟩
 go_wp2_with fail
 refine (C2 _ hb1).mono ?_
 rintro e w2 ⟨rfl,hb2⟩
 have B:=hid (hb1.trans (hb2.mono hb1.size))
 clear C1 C2 hb1 hb2
 go_wp2
 go_ret
 exact ⟨rfl,B.out⟩
end Go.Proofs.YtjagijohfkffiabGreat.holdings
namespace Go.Proofs.YtjagijohfkffiabGreat
def Step (ns:List Nd) (x:Nat) (S T:Nat→Bool):Prop:=∀ (k:Nat) (nd:Nd),ns[k]?=some nd→S k=aK nd.op x (S nd.l) (S nd.r) (T k) (T nd.l)
def fD (nd:Nd) (k:Nat) (S:Nat→Bool):Bool:=
 if nd.op=70 then S nd.l||!S k else if nd.op=85 then S nd.r||!S k else if nd.op=71 then S k||!S nd.l else if nd.op=82 then S k||!S nd.r else true
structure uC (ns:List Nd) (x:Nat→Nat) (S:Nat→Nat→Bool):Prop where
 step:∀ t,Step ns (x t) (S t) (S (t+1))
 kept:∀ (k:Nat) (nd:Nd),ns[k]?=some nd→∀ t,∃ t',t≤t'∧fD nd k (S t')=true
theorem wZ {A B x:Nat→Bool} (h:∀ t,x t=(B t||(A t&&x (t+1)))) (hk:∀ t,∃ t',t≤t'∧(B t'=true∨x t'=false)) (t:Nat):x t=true↔∃ s,B (t+s)=true∧∀ m,m<s→A (t+m)=true:=by
 constructor
 ·intro hx
  obtain ⟨t',ht,hd⟩:=hk t
  obtain ⟨d,rfl⟩:∃ d,t'=t+d:=⟨t' - t,by omega⟩
  clear ht
  induction d generalizing t with
  | zero=>
   refine ⟨0,?_,fun m hm=>by omega⟩
   rcases hd with h1 | h1
   ·exact h1
   ·rw [Nat.add_zero] at h1;rw [h1] at hx;simp at hx
  | succ d ih=>
   by_cases hB:B t=true
   ·exact ⟨0,hB,fun m hm=>by omega⟩
   ·rw [h t] at hx
    simp only [hB,Bool.or_eq_true,Bool.and_eq_true,Bool.false_eq_true,false_or] at hx
    obtain ⟨s,h1,h2⟩:=ih (t+1) hx.2 (by rw [show t+1+d=t+(d+1) by omega];exact hd)
    refine ⟨s+1,by rw [show t+(s+1)=t+1+s by omega];exact h1,fun m hm=>?_⟩
    cases m with
    | zero=>exact hx.1
    | succ m=>rw [show t+(m+1)=t+1+m by omega];exact h2 m (by omega)
 ·rintro ⟨s,h1,h2⟩
  induction s generalizing t with
  | zero=>rw [h t];simp at h1;simp [h1]
  | succ s ih=>
   have ha:=h2 0 (by omega)
   rw [Nat.add_zero] at ha
   rw [h t,ha,ih (t+1) (by rw [show t+1+s=t+(s+1) by omega];exact h1) (fun m hm=>by rw [show t+1+m=t+(m+1) by omega];exact h2 (m+1) (by omega))]
   simp
theorem IV (lt:Nat→Nat) (nd:Nd) (rs:List (Nat→Prop)) (t:Nat):kI (fun i=>i+1) lt nd rs t ↔
  if nd.op=49 then True else if nd.op=112 then (lt t).testBit 0=true else if nd.op=113 then (lt t).testBit 1=true else if nd.op=114 then (lt t).testBit 2=true
  else if nd.op=33 then ¬ rs.getD nd.l (fun _=>False) t else if nd.op=88 then rs.getD nd.l (fun _=>False) (t+1)
  else if nd.op=70 then ∃ s,rs.getD nd.l (fun _=>False) (t+s) else if nd.op=71 then ∀ s,rs.getD nd.l (fun _=>False) (t+s)
  else if nd.op=38 then rs.getD nd.l (fun _=>False) t∧rs.getD nd.r (fun _=>False) t else if nd.op=124 then rs.getD nd.l (fun _=>False) t∨rs.getD nd.r (fun _=>False) t
  else if nd.op=85 then ∃ s,rs.getD nd.r (fun _=>False) (t+s)∧∀ m,m<s→rs.getD nd.l (fun _=>False) (t+m)
  else if nd.op=82 then ∀ s,rs.getD nd.r (fun _=>False) (t+s)∨∃ m,m<s∧rs.getD nd.l (fun _=>False) (t+m) else False:=by
 unfold kI
 have e:∀ s i,it (fun i=>i+1) s i=i+s:=by
  intro s
  induction s with
  | zero=>intro i;rfl
  | succ s ih=>intro i;simp only [it];rw [ih];omega
 simp only [e]
theorem Af {ns:List Nd} (hw:fO ns) {x:Nat→Nat} {S:Nat→Nat→Bool} (h:uC ns x S) (k:Nat) (hk:k<ns.length) (t:Nat):S t k=true↔dz (fun i=>i+1) x ns k t:=by
 induction k using Nat.strongRecOn generalizing t with
 | _ k ih=>
  have hn:ns[k]?=some ns[k]:=List.getElem?_eq_getElem hk
  obtain ⟨hc,h1,h2⟩:=dx hw hn
  have st:=fun t=>h.step t k _ hn
  have kp:=h.kept k _ hn
  rw [iy hn hw,IV]
  generalize ns[k]=nd at *
  have L:aP nd.op=false→∀ t,(S t nd.l=true↔(rows (fun i=>i+1) x ns).getD nd.l (fun _=>False) t):=fun hl t=>ih nd.l (h1 hl) (by have:=h1 hl;omega) t
  have R:bz nd.op=true→∀ t,(S t nd.r=true↔(rows (fun i=>i+1) x ns).getD nd.r (fun _=>False) t):=fun hr t=>ih nd.r (h2 hr) (by have:=h2 hr;omega) t
  rcases hc with hc | hc | hc
  ·rcases kV hc with e | e | e | e | e <;> (simp only [e] at st ⊢;rw [st t];simp [aK])
  ·have L:=L (jw hc)
   rcases mR hc with e | e | e | e
   ·simp only [e] at st ⊢;rw [st t];simp [aK,←L]
   ·simp only [e] at st ⊢;rw [st t];simp [aK,←L]
   ·simp only [e,Nat.reduceEqDiff,if_false,if_true] at st ⊢
    have key:=wZ (A:=fun _=>true) (B:=fun t=>S t nd.l) (x:=fun t=>S t k) (fun t=>by rw [st t];simp [aK]) (fun t=>by
     obtain ⟨t',ht,hq⟩:=kp t
     refine ⟨t',ht,?_⟩
     simp only [fD,e,if_true] at hq
     simpa using hq) t
    rw [key]
    simp [L]
   ·simp only [e,Nat.reduceEqDiff,if_false,if_true] at st ⊢
    have key:=wZ (A:=fun _=>true) (B:=fun t=>!S t nd.l) (x:=fun t=>!S t k) (fun t=>by rw [st t];simp [aK]) (fun t=>by
     obtain ⟨t',ht,hq⟩:=kp t
     refine ⟨t',ht,?_⟩
     simp only [fD,e,Nat.reduceEqDiff,if_false,if_true] at hq
     simpa [or_comm] using hq) t
    have Eu:S t k=true↔¬ ∃ s,(!S (t+s) nd.l)=true∧∀ m,m<s→true=true:=by rw [←key];simp
    rw [Eu]
    simp [←L]
  ·have L:=L (lG hc)
   have R:=R hc
   rcases jL hc with e | e | e | e
   ·simp only [e] at st ⊢;rw [st t];simp [aK,←L,←R]
   ·simp only [e] at st ⊢;rw [st t];simp [aK,←L,←R]
   ·simp only [e,Nat.reduceEqDiff,if_false,if_true] at st ⊢
    have key:=wZ (A:=fun t=>S t nd.l) (B:=fun t=>S t nd.r) (x:=fun t=>S t k) (fun t=>by rw [st t];simp [aK]) (fun t=>by
     obtain ⟨t',ht,hq⟩:=kp t
     refine ⟨t',ht,?_⟩
     simp only [fD,e,Nat.reduceEqDiff,if_false,if_true] at hq
     simpa using hq) t
    rw [key]
    simp [L,R]
   ·simp only [e,Nat.reduceEqDiff,if_false,if_true] at st ⊢
    have key:=wZ (A:=fun t=>!S t nd.l) (B:=fun t=>!S t nd.r) (x:=fun t=>!S t k) (fun t=>by rw [st t];simp [aK]) (fun t=>by
     obtain ⟨t',ht,hq⟩:=kp t
     refine ⟨t',ht,?_⟩
     simp only [fD,e,Nat.reduceEqDiff,if_false,if_true] at hq
     simpa [or_comm] using hq) t
    have Eu:S t k=true↔¬ ∃ s,(!S (t+s) nd.r)=true∧∀ m,m<s→(!S (t+m) nd.l)=true:=by rw [←key];simp
    rw [Eu]
    constructor
    ·intro h s
     rw [←R]
     cases hr:S (t+s) nd.r with
     | true=>exact Or.inl rfl
     | false=>
      refine Or.inr (Classical.byContradiction fun hn=>h ⟨s,by simp [hr],fun m hm=>?_⟩)
      cases hl:S (t+m) nd.l with
      | false=>rfl
      | true=>exact absurd ⟨m,hm,(L _).1 hl⟩ hn
    ·rintro h ⟨s,h3,h4⟩
     rcases h s with h5 | ⟨m,hm,h5⟩
     ·rw [(R _).2 h5] at h3;simp at h3
     ·have:=h4 m hm;rw [(L _).2 h5] at this;simp at this
theorem mF {ns:List Nd} (hw:fO ns) (x:Nat→Nat):∃ S:Nat→Nat→Bool,(∀ t k,S t k=true↔dz (fun i=>i+1) x ns k t)∧uC ns x S:=by
 refine ⟨fun t k=>@decide _ (Classical.propDecidable (dz (fun i=>i+1) x ns k t)),fun t k=>by simp,?_,?_⟩
 ·intro t k nd hn
  obtain ⟨hc,h1,h2⟩:=dx hw hn
  have e0:=iy (nx:=fun i=>i+1) (lt:=x) hn hw t
  have e1:=iy (nx:=fun i=>i+1) (lt:=x) hn hw (t+1)
  rw [IV] at e0 e1
  rw [Bool.eq_iff_iff]
  simp only [decide_eq_true_eq]
  rw [e0]
  have fx:∀ (P Q:Nat→Prop),(∃ s,Q (t+s)∧∀ m,m<s→P (t+m))↔Q t∨(P t∧∃ s,Q (t+1+s)∧∀ m,m<s→P (t+1+m)):=by
   intro P Q
   constructor
   ·rintro ⟨s,h3,h4⟩
    cases s with
    | zero=>exact Or.inl h3
    | succ s=>exact Or.inr ⟨h4 0 (by omega),s,by rw [show t+1+s=t+(s+1) by omega];exact h3,fun m hm=>by rw [show t+1+m=t+(m+1) by omega];exact h4 (m+1) (by omega)⟩
   ·rintro (h3 | ⟨h3,s,h4,h5⟩)
    ·exact ⟨0,h3,fun m hm=>by omega⟩
    ·refine ⟨s+1,by rw [show t+(s+1)=t+1+s by omega];exact h4,fun m hm=>?_⟩
     cases m with
     | zero=>exact h3
     | succ m=>rw [show t+(m+1)=t+1+m by omega];exact h5 m (by omega)
  have ga:∀ (P:Nat→Prop),(∀ s,P (t+s))↔P t∧∀ s,P (t+1+s):=by
   intro P
   constructor
   ·intro h;exact ⟨h 0,fun s=>by rw [show t+1+s=t+(s+1) by omega];exact h _⟩
   ·rintro ⟨h,h'⟩ s
    cases s with
    | zero=>exact h
    | succ s=>rw [show t+(s+1)=t+1+s by omega];exact h' s
  have fa:∀ (P:Nat→Prop),(∃ s,P (t+s))↔P t∨∃ s,P (t+1+s):=by
   intro P
   constructor
   ·rintro ⟨s,h⟩
    cases s with
    | zero=>exact Or.inl h
    | succ s=>exact Or.inr ⟨s,by rw [show t+1+s=t+(s+1) by omega];exact h⟩
   ·rintro (h | ⟨s,h⟩)
    ·exact ⟨0,h⟩
    ·exact ⟨s+1,by rw [show t+(s+1)=t+1+s by omega];exact h⟩
  have ra:∀ (P Q:Nat→Prop),(∀ s,Q (t+s)∨∃ m,m<s∧P (t+m))↔Q t∧(P t∨∀ s,Q (t+1+s)∨∃ m,m<s∧P (t+1+m)):=by
   intro P Q
   constructor
   ·intro h
    refine ⟨(h 0).resolve_right (fun ⟨m,hm,_⟩=>by omega),?_⟩
    by_cases hp:P t
    ·exact Or.inl hp
    ·refine Or.inr fun s=>?_
     rcases h (s+1) with h3 | ⟨m,hm,h3⟩
     ·exact Or.inl (by rw [show t+1+s=t+(s+1) by omega];exact h3)
     ·cases m with
      | zero=>exact absurd h3 hp
      | succ m=>exact Or.inr ⟨m,by omega,by rw [show t+1+m=t+(m+1) by omega];exact h3⟩
   ·rintro ⟨hq,h⟩ s
    cases s with
    | zero=>exact Or.inl hq
    | succ s=>
     rcases h with hp | h
     ·exact Or.inr ⟨0,by omega,hp⟩
     ·rcases h s with h3 | ⟨m,hm,h3⟩
      ·exact Or.inl (by rw [show t+(s+1)=t+1+s by omega];exact h3)
      ·exact Or.inr ⟨m+1,by omega,by rw [show t+(m+1)=t+1+m by omega];exact h3⟩
  rcases hc with hc | hc | hc
  ·rcases kV hc with e | e | e | e | e <;> simp [e,aK]
  ·rcases mR hc with e | e | e | e
   ·simp only [e,aK,Nat.reduceEqDiff,if_false,if_true,Bool.not_eq_true',decide_eq_false_iff_not]
    rfl
   ·simp only [e,aK,Nat.reduceEqDiff,if_false,if_true,decide_eq_true_eq]
    rfl
   ·simp only [e,Nat.reduceEqDiff,if_false,if_true] at e1 ⊢
    rw [fa]
    simp only [aK,Nat.reduceEqDiff,if_false,if_true,Bool.or_eq_true,decide_eq_true_eq,e1]
    rfl
   ·simp only [e,Nat.reduceEqDiff,if_false,if_true] at e1 ⊢
    rw [ga]
    simp only [aK,Nat.reduceEqDiff,if_false,if_true,Bool.and_eq_true,decide_eq_true_eq,e1]
    rfl
  ·rcases jL hc with e | e | e | e
   ·simp only [e,aK,Nat.reduceEqDiff,if_false,if_true,Bool.and_eq_true,decide_eq_true_eq]
    rfl
   ·simp only [e,aK,Nat.reduceEqDiff,if_false,if_true,Bool.or_eq_true,decide_eq_true_eq]
    rfl
   ·simp only [e,Nat.reduceEqDiff,if_false,if_true] at e1 ⊢
    rw [fx]
    simp only [aK,Nat.reduceEqDiff,if_false,if_true,Bool.or_eq_true,Bool.and_eq_true,decide_eq_true_eq,e1]
    rfl
   ·simp only [e,Nat.reduceEqDiff,if_false,if_true] at e1 ⊢
    rw [ra]
    simp only [aK,Nat.reduceEqDiff,if_false,if_true,Bool.or_eq_true,Bool.and_eq_true,decide_eq_true_eq,e1]
    rfl
 ·intro k nd hn t
  obtain ⟨hc,h1,h2⟩:=dx hw hn
  have e0:=iy (nx:=fun i=>i+1) (lt:=x) hn hw t
  rw [IV] at e0
  unfold fD
  rcases hc with hc | hc | hc
  ·rcases kV hc with e | e | e | e | e <;> exact ⟨t,Nat.le_refl _,by simp [e]⟩
  ·rcases mR hc with e | e | e | e
   ·exact ⟨t,Nat.le_refl _,by simp [e]⟩
   ·exact ⟨t,Nat.le_refl _,by simp [e]⟩
   ·simp only [e,Nat.reduceEqDiff,if_false,if_true] at e0 ⊢
    by_cases hs:dz (fun i=>i+1) x ns k t
    ·obtain ⟨s,h3⟩:=e0.1 hs
     refine ⟨t+s,by omega,?_⟩
     simp only [Bool.or_eq_true,decide_eq_true_eq]
     exact Or.inl h3
    ·exact ⟨t,Nat.le_refl _,by simp [hs]⟩
   ·simp only [e,Nat.reduceEqDiff,if_false,if_true] at e0 ⊢
    by_cases hs:dz (fun i=>i+1) x ns k t
    ·exact ⟨t,Nat.le_refl _,by simp [hs]⟩
    ·have:∃ s,¬ dz (fun i=>i+1) x ns nd.l (t+s):=Classical.byContradiction fun hn=>hs (e0.2 fun s=>Classical.byContradiction fun h=>hn ⟨s,h⟩)
     obtain ⟨s,h3⟩:=this
     exact ⟨t+s,by omega,by simp [h3]⟩
  ·rcases jL hc with e | e | e | e
   ·exact ⟨t,Nat.le_refl _,by simp [e]⟩
   ·exact ⟨t,Nat.le_refl _,by simp [e]⟩
   ·simp only [e,Nat.reduceEqDiff,if_false,if_true] at e0 ⊢
    by_cases hs:dz (fun i=>i+1) x ns k t
    ·obtain ⟨s,h3,_⟩:=e0.1 hs
     refine ⟨t+s,by omega,?_⟩
     simp only [Bool.or_eq_true,decide_eq_true_eq]
     exact Or.inl h3
    ·exact ⟨t,Nat.le_refl _,by simp [hs]⟩
   ·simp only [e,Nat.reduceEqDiff,if_false,if_true] at e0 ⊢
    by_cases hs:dz (fun i=>i+1) x ns k t
    ·exact ⟨t,Nat.le_refl _,by simp [hs]⟩
    ·have:∃ s,¬ dz (fun i=>i+1) x ns nd.r (t+s):=Classical.byContradiction fun hn=>hs (e0.2 fun s=>Classical.byContradiction fun h=>hn ⟨s,fun h'=>h (Or.inl h')⟩)
     obtain ⟨s,h3⟩:=this
     exact ⟨t+s,by omega,by simp [h3]⟩
def oI (u:List Nat) (x:Nat→Nat):Prop:=∀ i,i<u.length→x i=u.getD i 0
def dM (x:Nat→Nat):Prop:=∀ t,x t<8
def dh (n:Nat) (S T:Nat→Bool):Prop:=∀ k,k<n→S k=T k
theorem dh.refl (n:Nat) (S:Nat→Bool):dh n S S:=fun _ _=>rfl
theorem dh.symm {n:Nat} {S T:Nat→Bool} (h:dh n S T):dh n T S:=fun k hk=>(h k hk).symm
theorem dh.trans {n:Nat} {S T U:Nat→Bool} (h:dh n S T) (k:dh n T U):dh n S U:=fun i hi=>(h i hi).trans (k i hi)
theorem lF {ns:List Nd} (hw:fO ns) {k:Nat} {nd:Nd} (hn:ns[k]?=some nd):k<ns.length∧(nd.l<ns.length)∧(nd.r<ns.length):=by
 have hk:=(List.getElem?_eq_some_iff.1 hn).1
 rcases hw k nd hn with ⟨_,h1,h2⟩ | ⟨_,h1,h2⟩ | ⟨_,h1,h2⟩ <;> omega
theorem zw {ns:List Nd} (hw:fO ns) {x:Nat} {S S' T T':Nat→Bool} (hS:dh ns.length S S') (hT:dh ns.length T T') (h:Step ns x S T):Step ns x S' T':=by
 intro k nd hn
 obtain ⟨h1,h2,h3⟩:=lF hw hn
 rw [←hS k h1,←hS nd.l h2,←hS nd.r h3,←hT k h1,←hT nd.l h2]
 exact h k nd hn
def chain (ns:List Nd):List Nat→(Nat→Bool)→Prop
 | [],S=>∃ x S',dM x∧uC ns x S'∧dh ns.length (S' 0) S
 | a::u,S=>a<8∧∃ T,Step ns a S T∧chain ns u T
def CU {α:Type} (a:α) (x:Nat→α):Nat→α
 | 0=>a
 | t+1=>x t
theorem Xp {ns:List Nd} (hw:fO ns) {x:Nat→Nat} {S':Nat→Nat→Bool} (h:uC ns x S') {a:Nat} {S T:Nat→Bool} (hs:Step ns a S T) (hT:dh ns.length (S' 0) T):uC ns (CU a x) (CU S S'):=by
 refine ⟨fun t=>?_,fun k nd hn t=>?_⟩
 ·cases t with
  | zero=>exact zw hw (dh.refl _ _) hT.symm hs
  | succ t=>exact h.step t
 ·obtain ⟨t',ht,hk⟩:=h.kept k nd hn t
  exact ⟨t'+1,by omega,hk⟩
theorem Xo {ns:List Nd} {x:Nat→Nat} {S':Nat→Nat→Bool} (h:uC ns x S'):uC ns (fun t=>x (t+1)) (fun t=>S' (t+1)):=by
 refine ⟨fun t=>h.step (t+1),fun k nd hn t=>?_⟩
 obtain ⟨t',ht,hk⟩:=h.kept k nd hn (t+1)
 refine ⟨t' - 1,by omega,?_⟩
 show fD nd k (S' (t' - 1+1))=true
 rw [show t' - 1+1=t' by omega];exact hk
theorem qJ {ns:List Nd} (hw:fO ns):∀ (u:List Nat) (S:Nat→Bool),(chain ns u S↔∃ x S',dM x∧oI u x∧uC ns x S'∧dh ns.length (S' 0) S)
 | [],S=>by
  constructor
  ·rintro ⟨x,S',h1,h2,h3⟩;exact ⟨x,S',h1,fun i hi=>by simp at hi,h2,h3⟩
  ·rintro ⟨x,S',h1,_,h2,h3⟩;exact ⟨x,S',h1,h2,h3⟩
 | a::u,S=>by
  constructor
  ·rintro ⟨ha,T,hs,hc⟩
   obtain ⟨x,S',h1,h2,h3,h4⟩:=(qJ hw u T).1 hc
   refine ⟨CU a x,CU S S',fun t=>?_,fun i hi=>?_,Xp hw h3 hs h4,dh.refl _ _⟩
   ·cases t with
    | zero=>exact ha
    | succ t=>exact h1 t
   ·cases i with
    | zero=>simp [CU]
    | succ i=>
     have:=h2 i (by simpa using hi)
     simpa [CU] using this
  ·rintro ⟨x,S',h1,h2,h3,h4⟩
   have hx:=h2 0 (by simp)
   simp at hx
   refine ⟨by rw [←hx];exact h1 0,S' 1,?_,?_⟩
   ·have:=h3.step 0
    rw [hx] at this
    exact zw hw h4 (dh.refl _ _) this
   ·refine (qJ hw u (S' 1)).2 ⟨fun t=>x (t+1),fun t=>S' (t+1),fun t=>h1 (t+1),fun i hi=>?_,Xo h3,dh.refl _ _⟩
    have:=h2 (i+1) (by simpa using hi)
    simpa using this
theorem Gs {ns:List Nd} (hw:fO ns) {u:List Nat} {S:Nat→Bool} (h:chain ns u S):chain ns [] S:=by
 obtain ⟨x,S',h1,_,h2,h3⟩:=(qJ hw u S).1 h
 exact ⟨x,S',h1,h2,h3⟩
theorem yn {ns:List Nd} (hw:fO ns) {u:List Nat} {S T:Nat→Bool} (e:dh ns.length S T) (h:chain ns u S):chain ns u T:=by
 rw [qJ hw] at h ⊢
 obtain ⟨x,S',h1,h2,h3,h4⟩:=h
 exact ⟨x,S',h1,h2,h3,h4.trans e⟩
def May (ns:List Nd) (u:List Nat) (b:Bool):Prop:=∃ x,dM x∧oI u x∧(dz (fun i=>i+1) x ns (ns.length - 1) 0↔b=true)
theorem QP {ns:List Nd} (hg:Good ns) (u:List Nat) (b:Bool):May ns u b↔∃ S:Nat→Bool,S (ns.length - 1)=b∧chain ns u S:=by
 have hp:=hg.pos
 constructor
 ·rintro ⟨x,h1,h2,h3⟩
  obtain ⟨S,hS,hr⟩:=mF hg.wf x
  refine ⟨S 0,?_,(qJ hg.wf u (S 0)).2 ⟨x,S,h1,h2,hr,dh.refl _ _⟩⟩
  rw [Bool.eq_iff_iff,hS,h3]
 ·rintro ⟨S,hb,hc⟩
  obtain ⟨x,S',h1,h2,h3,h4⟩:=(qJ hg.wf u S).1 hc
  refine ⟨x,h1,h2,?_⟩
  rw [←Af hg.wf h3 _ (by omega),h4 _ (by omega),hb]
def iC (ns:List Nd) (u:List Nat) (v:Nat):Prop:=(v=2∧¬ May ns u true)∨(v=1∧May ns u true∧¬ May ns u false)∨(v=0∧May ns u true∧May ns u false)
theorem jW {ns:List Nd} {u:List Nat} {v v':Nat} (h:iC ns u v) (h':iC ns u v'):v=v':=by
 rcases h with ⟨rfl,a⟩ | ⟨rfl,a,b⟩ | ⟨rfl,a,b⟩ <;> rcases h' with ⟨rfl,c⟩ | ⟨rfl,c,d⟩ | ⟨rfl,c,d⟩ <;> first | rfl | exact absurd ‹May ns u true› ‹¬ May ns u true› | exact absurd ‹May ns u false› ‹¬ May ns u false›
theorem Df {ns:List Nd} {u:List Nat} (hu:∀ x∈u,x<8) {v:Nat} (h:iC ns u v) :
  (v=1↔∀ x,dM x→oI u x→dz (fun i=>i+1) x ns (ns.length - 1) 0)∧(v=2↔∀ x,dM x→oI u x→¬ dz (fun i=>i+1) x ns (ns.length - 1) 0):=by
 have ex:∃ x,dM x∧oI u x:=⟨fun i=>u.getD i 0,fun t=>by
  show u.getD t 0<8
  rw [List.getD]
  cases e:u[t]? with
  | none=>simp
  | some y=>exact hu y (List.mem_of_getElem? e),fun i _=>rfl⟩
 have mt:May ns u true↔∃ x,dM x∧oI u x∧dz (fun i=>i+1) x ns (ns.length - 1) 0:=by simp [May]
 have mf:May ns u false↔∃ x,dM x∧oI u x∧¬ dz (fun i=>i+1) x ns (ns.length - 1) 0:=by simp [May]
 have a1:¬ May ns u true↔∀ x,dM x→oI u x→¬ dz (fun i=>i+1) x ns (ns.length - 1) 0:=by
  rw [mt]
  exact ⟨fun h x h1 h2 h3=>h ⟨x,h1,h2,h3⟩,fun h ⟨x,h1,h2,h3⟩=>h x h1 h2 h3⟩
 have a2:¬ May ns u false↔∀ x,dM x→oI u x→dz (fun i=>i+1) x ns (ns.length - 1) 0:=by
  rw [mf]
  exact ⟨fun h x h1 h2=>Classical.byContradiction fun h3=>h ⟨x,h1,h2,h3⟩,fun h ⟨x,h1,h2,h3⟩=>h3 (h x h1 h2)⟩
 have a3:May ns u true∨May ns u false:=by
  obtain ⟨x,h1,h2⟩:=ex
  by_cases h3:dz (fun i=>i+1) x ns (ns.length - 1) 0
  ·exact Or.inl (mt.2 ⟨x,h1,h2,h3⟩)
  ·exact Or.inr (mf.2 ⟨x,h1,h2,h3⟩)
 rw [←a1,←a2]
 rcases h with ⟨rfl,a⟩ | ⟨rfl,a,b⟩ | ⟨rfl,a,b⟩
 ·simp [a,a3.resolve_left a]
 ·simp [a,b]
 ·simp [a,b]
def pq (E:Nat→Nat→Prop):Nat→Nat→Nat→Prop
 | 0,a,b=>a=b
 | L+1,a,b=>∃ c,E a c∧pq E L c b
def reach (E:Nat→Nat→Prop) (a b:Nat):Prop:=∃ L,pq E (L+1) a b
theorem zI {E:Nat→Nat→Prop}:∀ (L M a b c:Nat),pq E L a b→pq E M b c→pq E (L+M) a c
 | 0,M,a,b,c,h,k=>by cases h;rw [Nat.zero_add];exact k
 | L+1,M,a,b,c,⟨d,h1,h2⟩,k=>by
  rw [show L+1+M=L+M+1 by omega]
  exact ⟨d,h1,zI L M d b c h2 k⟩
theorem dA {E:Nat→Nat→Prop} {a b c:Nat} (h:reach E a b) (k:reach E b c):reach E a c:=by
 obtain ⟨L,h⟩:=h
 obtain ⟨M,k⟩:=k
 exact ⟨L+M+1,by rw [show L+M+1+1=(L+1)+(M+1) by omega];exact zI _ _ _ _ _ h k⟩
theorem jS {E:Nat→Nat→Prop} {a b:Nat} (h:E a b):reach E a b:=⟨0,b,h,rfl⟩
theorem Tg {E:Nat→Nat→Prop} {a b c:Nat} (h:E a b) (k:reach E b c):reach E a c:=dA (jS h) k
def Walk (E:Nat→Nat→Prop) (p:Nat→Nat) (L a b:Nat):Prop:=p 0=a∧p L=b∧∀ i,i<L→E (p i) (p (i+1))
theorem yz {E:Nat→Nat→Prop}:∀ (L a b:Nat),pq E L a b→∃ p,Walk E p L a b
 | 0,a,b,h=>⟨fun _=>a,rfl,h,fun i hi=>by omega⟩
 | L+1,a,b,⟨c,h1,h2⟩=>by
  obtain ⟨p,p0,pL,pe⟩:=yz L c b h2
  refine ⟨fun i=>match i with | 0=>a | i+1=>p i,rfl,pL,fun i hi=>?_⟩
  cases i with
  | zero=>show E a (p 0);rw [p0];exact h1
  | succ i=>exact pe i (by omega)
theorem qU {E:Nat→Nat→Prop} {p:Nat→Nat} (h:∀ t,E (p t) (p (t+1))) (s d:Nat):reach E (p s) (p (s+d+1)):=by
 induction d with
 | zero=>exact jS (h s)
 | succ d ih=>exact dA ih (jS (h (s+d+1)))
def pX (p q:Nat→Nat) (L:Nat) (i:Nat):Nat:=if i<L then p i else q (i - L)
theorem Jh {E:Nat→Nat→Prop} {p q:Nat→Nat} {L M a b c:Nat} (h:Walk E p L a b) (k:Walk E q M b c):Walk E (pX p q L) (L+M) a c:=by
 obtain ⟨h0,hL,he⟩:=h
 obtain ⟨k0,kM,ke⟩:=k
 refine ⟨?_,?_,fun i hi=>?_⟩
 ·unfold pX
  by_cases h:0<L
  ·rw [if_pos h];exact h0
  ·rw [if_neg h]
   have:L=0:=by omega
   subst this
   rw [Nat.sub_self,k0,←hL,h0]
 ·unfold pX
  rw [if_neg (by omega),Nat.add_sub_cancel_left];exact kM
 ·unfold pX
  by_cases h1:i+1<L
  ·rw [if_pos (by omega),if_pos h1];exact he i (by omega)
  ·rw [if_neg h1]
   by_cases h2:i<L
   ·have e:i+1=L:=by omega
    rw [if_pos h2,e,Nat.sub_self,k0,←hL,←e];exact he i h2
   ·rw [if_neg h2,show i+1 - L=(i - L)+1 by omega];exact ke (i - L) (by omega)
theorem Bl {E:Nat→Nat→Prop} {c:Nat} (hc:reach E c c):∀ l:List Nat,(∀ i∈l,reach E c i∧reach E i c)→∃ p L,0<L∧Walk E p L c c∧∀ i∈l,∃ s,s<L∧p s=i
 | [],_=>by
  obtain ⟨L,h⟩:=hc
  obtain ⟨p,hp⟩:=yz _ _ _ h
  exact ⟨p,L+1,by omega,hp,fun i hi=>by simp at hi⟩
 | i::l,hl=>by
  obtain ⟨p,L,hL,hp,hm⟩:=Bl hc l (fun j hj=>hl j (List.mem_cons_of_mem _ hj))
  obtain ⟨⟨M,h1⟩,⟨M',h2⟩⟩:=hl i (List.mem_cons_self ..)
  obtain ⟨q,hq⟩:=yz _ _ _ h1
  obtain ⟨r,hr⟩:=yz _ _ _ h2
  have hqr:=Jh hq hr
  refine ⟨pX p (pX q r (M+1)) L,L+(M+1+(M'+1)),by omega,Jh hp hqr,fun j hj=>?_⟩
  rcases List.mem_cons.1 hj with rfl | hj
  ·refine ⟨L+(M+1),by omega,?_⟩
   unfold pX
   rw [if_neg (by omega),Nat.add_sub_cancel_left,if_neg (by omega),Nat.sub_self]
   exact hr.1
  ·obtain ⟨s,hs,e⟩:=hm j hj
   refine ⟨s,by omega,?_⟩
   unfold pX
   rw [if_pos hs];exact e
def Path (E:Nat→Nat→Prop) (q:Nat→Nat):Prop:=∀ t,E (q t) (q (t+1))
def tQ (K:Nat→Nat→Prop) (m:Nat) (q:Nat→Nat):Prop:=∀ k,k<m→∀ t,∃ t',t≤t'∧K k (q t')
def vB (E:Nat→Nat→Prop) (K:Nat→Nat→Prop) (m c:Nat):Prop:=reach E c c∧∀ k,k<m→∃ i,reach E c i∧reach E i c∧K k i
theorem FU {E:Nat→Nat→Prop} {K:Nat→Nat→Prop} {c:Nat}:∀ m,(∀ k,k<m→∃ i,reach E c i∧reach E i c∧K k i)→∃ l:List Nat,(∀ i∈l,reach E c i∧reach E i c)∧∀ k,k<m→∃ i∈l,K k i
 | 0,_=>⟨[],fun i hi=>by simp at hi,fun k hk=>by omega⟩
 | m+1,h=>by
  obtain ⟨l,h1,h2⟩:=FU m (fun k hk=>h k (by omega))
  obtain ⟨i,a,b,d⟩:=h m (by omega)
  refine ⟨i::l,fun j hj=>?_,fun k hk=>?_⟩
  ·rcases List.mem_cons.1 hj with rfl | hj
   ·exact ⟨a,b⟩
   ·exact h1 j hj
  ·by_cases e:k=m
   ·subst e;exact ⟨i,List.mem_cons_self ..,d⟩
   ·obtain ⟨j,hj,hk2⟩:=h2 k (by omega)
    exact ⟨j,List.mem_cons_of_mem _ hj,hk2⟩
theorem VA {E:Nat→Nat→Prop} {p:Nat→Nat} {L c:Nat} (hL:0<L) (h:Walk E p L c c):Path E (fun t=>p (t % L)):=by
 obtain ⟨h0,h1,he⟩:=h
 intro t
 have hm:=Nat.mod_lt t hL
 show E (p (t % L)) (p ((t+1) % L))
 by_cases h2:t % L+1<L
 ·have e:(t+1) % L=t % L+1:=by
   rw [Nat.add_mod]
   by_cases h3:L=1
   ·omega
   ·rw [Nat.mod_eq_of_lt (show 1<L by omega),Nat.mod_eq_of_lt h2]
  rw [e];exact he _ hm
 ·have e:(t+1) % L=0:=by
   have e2:t % L+1=L:=by omega
   have:=Nat.div_add_mod t L
   have e3:t+1=L*(t / L+1):=by rw [Nat.mul_add];omega
   rw [e3,Nat.mul_mod_right]
  rw [e,h0]
  have:=he (t % L) hm
  rw [show t % L+1=L by omega,h1] at this
  exact this
theorem WV {E:Nat→Nat→Prop} {K:Nat→Nat→Prop} {m c:Nat} (h:vB E K m c):∃ q,q 0=c∧Path E q∧tQ K m q∧∃ L,0<L∧∀ t,q (t+L)=q t:=by
 obtain ⟨hc,hk⟩:=h
 obtain ⟨l,h1,h2⟩:=FU m hk
 obtain ⟨p,L,hL,hp,hm⟩:=Bl hc l h1
 refine ⟨fun t=>p (t % L),by simp [hp.1],VA hL hp,fun k hk t=>?_,L,hL,fun t=>by simp⟩
 obtain ⟨i,hi,hK⟩:=h2 k hk
 obtain ⟨s,hs,e⟩:=hm i hi
 refine ⟨t*L+s,?_,?_⟩
 ·have:t*1≤t*L:=Nat.mul_le_mul_left t hL
  omega
 ·show K k (p ((t*L+s) % L))
  rw [Nat.mul_comm,Nat.mul_add_mod,Nat.mod_eq_of_lt hs,e]
  exact hK
theorem Bw {q:Nat→Nat} {P:Nat→Prop} {n:Nat} (hn:∀ t,q t<n) (h:∀ t,∃ t',t≤t'∧P (q t')):∃ v,v<n∧P v∧∀ t,∃ t',t≤t'∧q t'=v:=by
 refine Classical.byContradiction fun hc=>?_
 have key:∀ j,j≤n→∃ T,∀ t,T≤t→∀ v,v<j→P v→q t≠v:=by
  intro j
  induction j with
  | zero=>intro _;exact ⟨0,fun t _ v hv=>by omega⟩
  | succ j ih=>
   intro hj
   obtain ⟨T,hT⟩:=ih (by omega)
   by_cases hP:P j
   ·have:∃ T',∀ t,T'≤t→q t≠j:=Classical.byContradiction fun hx=>hc ⟨j,by omega,hP,fun t=>Classical.byContradiction fun hy=>hx ⟨t,fun t' ht e=>hy ⟨t',ht,e⟩⟩⟩
    obtain ⟨T',hT'⟩:=this
    refine ⟨max T T',fun t ht v hv hPv=>?_⟩
    by_cases e:v=j
    ·subst e;exact hT' t (by omega)
    ·exact hT t (by omega) v (by omega) hPv
   ·refine ⟨T,fun t ht v hv hPv=>?_⟩
    by_cases e:v=j
    ·subst e;exact absurd hPv hP
    ·exact hT t ht v (by omega) hPv
 obtain ⟨T,hT⟩:=key n (Nat.le_refl _)
 obtain ⟨t',ht,hp⟩:=h T
 exact hT t' ht (q t') (hn t') hp rfl
theorem VK {E:Nat→Nat→Prop} {K:Nat→Nat→Prop} {m n:Nat} {q:Nat→Nat} (hq:Path E q) (hn:∀ t,q t<n) (hm:tQ K m q):∃ c,c<n∧reach E (q 0) c∧vB E K m c:=by
 obtain ⟨c,hc,_,hv⟩:=Bw (P:=fun _=>True) hn (fun t=>⟨t,Nat.le_refl _,trivial⟩)
 have to:∀ s v,(∀ t,∃ t',t≤t'∧q t'=v)→reach E (q s) v:=by
  intro s v hv
  obtain ⟨t',ht,e⟩:=hv (s+1)
  obtain ⟨d,rfl⟩:∃ d,t'=s+d+1:=⟨t' - s - 1,by omega⟩
  rw [←e]
  exact qU hq s d
 have back:∀ u v,(∀ t,∃ t',t≤t'∧q t'=u)→(∀ t,∃ t',t≤t'∧q t'=v)→reach E u v:=by
  intro u v hu hv
  obtain ⟨s,_,e⟩:=hu 0
  rw [←e]
  exact to s v hv
 refine ⟨c,hc,to 0 c hv,back c c hv hv,fun k hk=>?_⟩
 obtain ⟨i,_,hK,hi⟩:=Bw (P:=K k) hn (hm k hk)
 exact ⟨i,back c i hv hi,back i c hi hv,hK⟩
theorem yl {E:Nat→Nat→Prop} {K:Nat→Nat→Prop} {m n a:Nat} (hE:∀ a b,E a b→b<n) (ha:a<n):(∃ q,q 0=a∧Path E q∧tQ K m q)↔∃ c,c<n∧reach E a c∧vB E K m c:=by
 constructor
 ·rintro ⟨q,q0,hq,hm⟩
  have hn:∀ t,q t<n:=fun t=>by
   cases t with
   | zero=>rw [q0];exact ha
   | succ t=>exact hE _ _ (hq t)
  obtain ⟨c,h1,h2,h3⟩:=VK hq hn hm
  rw [q0] at h2
  exact ⟨c,h1,h2,h3⟩
 ·rintro ⟨c,_,⟨L,h1⟩,h2⟩
  obtain ⟨p,hp⟩:=yz _ _ _ h1
  obtain ⟨q,q0,hq,hm,_⟩:=WV h2
  refine ⟨pX p q (L+1),?_,?_,?_⟩
  ·unfold pX;rw [if_pos (by omega)];exact hp.1
  ·intro t
   unfold pX
   by_cases h3:t+1<L+1
   ·rw [if_pos (by omega),if_pos h3];exact hp.2.2 t (by omega)
   ·rw [if_neg h3]
    by_cases h4:t<L+1
    ·have e:t+1=L+1:=by omega
     rw [if_pos h4,e,Nat.sub_self,q0]
     have:=hp.2.2 t h4
     rw [e,hp.2.1] at this
     exact this
    ·rw [if_neg h4,show t+1 - (L+1)=(t - (L+1))+1 by omega];exact hq _
  ·intro k hk t
   obtain ⟨t',ht,h3⟩:=hm k hk t
   refine ⟨L+1+t',by omega,?_⟩
   unfold pX
   rw [if_neg (by omega),Nat.add_sub_cancel_left];exact h3
def gq (nd:Nd) (k:Nat) (S:Nat→Bool):Bool:=
 if nd.op=48 then !S k else if nd.op=49 then S k else if nd.op=33 then S k!=S nd.l else if nd.op=38 then S k==(S nd.l&&S nd.r) else if nd.op=124 then S k==(S nd.l||S nd.r)
 else if nd.op=70 then S k||!S nd.l else if nd.op=71 then !S k||S nd.l else if nd.op=85 then (S k||!S nd.r)&&(!S k||S nd.l||S nd.r) else if nd.op=82 then (!S k||S nd.r)&&(S k||!S nd.l||!S nd.r) else true
def nK (nd:Nd) (k:Nat) (S:Nat→Bool) (x:Nat):Bool:=if nd.op=112∨nd.op=113∨nd.op=114 then jB x nd.op==S k else true
def gm (nd:Nd) (k:Nat) (S T:Nat→Bool):Bool:=
 if nd.op=88 then S k==T nd.l else if nd.op=70 then S k==(S nd.l||T k) else if nd.op=71 then S k==(S nd.l&&T k) else if nd.op=85 then S k==(S nd.r||(S nd.l&&T k)) else if nd.op=82 then S k==(S nd.r&&(S nd.l||T k)) else true
def xE (ns:List Nd) (S:Nat→Bool):Prop:=∀ k,k<ns.length→gq (ai ns k) k S=true
def pV (ns:List Nd) (S:Nat→Bool) (x:Nat):Prop:=∀ k,k<ns.length→nK (ai ns k) k S x=true
def zZ (ns:List Nd) (S T:Nat→Bool):Prop:=∀ k,k<ns.length→gm (ai ns k) k S T=true
theorem iO {ns:List Nd} {k:Nat} (h:k<ns.length):ns[k]?=some (ai ns k):=by
 simp [ai,List.getD,List.getElem?_eq_getElem h]
theorem Im {ns:List Nd} {k:Nat} {nd:Nd} (h:ns[k]?=some nd):k<ns.length∧ai ns k=nd:=by
 obtain ⟨hk,e⟩:=List.getElem?_eq_some_iff.1 h
 exact ⟨hk,by simp [ai,List.getD,h]⟩
theorem JS {nd:Nd} (hc:aP nd.op=true∨dB nd.op=true∨bz nd.op=true) (k x:Nat) (S T:Nat→Bool):S k=aK nd.op x (S nd.l) (S nd.r) (T k) (T nd.l)↔gq nd k S=true∧nK nd k S x=true∧gm nd k S T=true:=by
 unfold gq nK gm
 rcases hc with hc | hc | hc
 ·rcases kV hc with e | e | e | e | e
  ·simp [e,aK]
  ·simp [e,aK]
  ·simp [e,aK,jB];exact eq_comm
  ·simp [e,aK,jB];exact eq_comm
  ·simp [e,aK,jB];exact eq_comm
 ·rcases mR hc with e | e | e | e
  ·simp [e,aK];cases S k <;> cases S nd.l <;> simp
  ·simp [e,aK]
  ·simp [e,aK];cases S k <;> cases S nd.l <;> simp
  ·simp [e,aK];cases S k <;> cases S nd.l <;> simp
 ·rcases jL hc with e | e | e | e
  ·simp [e,aK]
  ·simp [e,aK]
  ·simp [e,aK];cases S k <;> cases S nd.l <;> cases S nd.r <;> simp
  ·simp [e,aK];cases S k <;> cases S nd.l <;> cases S nd.r <;> simp
theorem jF {ns:List Nd} (hw:fO ns) (x:Nat) (S T:Nat→Bool):Step ns x S T↔xE ns S∧pV ns S x∧zZ ns S T:=by
 constructor
 ·intro h
  have key:=fun k (hk:k<ns.length)=>(JS (dx hw (iO hk)).1 k x S T).1 (h k _ (iO hk))
  exact ⟨fun k hk=>(key k hk).1,fun k hk=>(key k hk).2.1,fun k hk=>(key k hk).2.2⟩
 ·rintro ⟨h1,h2,h3⟩ k nd hn
  obtain ⟨hk,e⟩:=Im hn
  subst e
  exact (JS (dx hw hn).1 k x S T).2 ⟨h1 k hk,h2 k hk,h3 k hk⟩
def xJ (S:Nat→Bool):Nat→Nat
 | 0=>0
 | j+1=>(if S j then 2 ^ j else 0)+xJ S j
theorem Ou (S:Nat→Bool) (n:Nat):xJ S n<2 ^ n:=by
 induction n with
 | zero=>simp [xJ]
 | succ n ih=>simp only [xJ,Nat.pow_succ];split <;> omega
theorem XN (S:Nat→Bool) (n k:Nat) (hk:k<n):(xJ S n).testBit k=S k:=by
 induction n with
 | zero=>omega
 | succ n ih=>
  simp only [xJ]
  have hb:=Ou S n
  by_cases e:k=n
  ·subst e
   cases hS:S k with
   | true=>rw [if_pos rfl,Nat.testBit_two_pow_add_eq,Nat.testBit_lt_two_pow hb];rfl
   | false=>rw [if_neg (by simp),Nat.zero_add,Nat.testBit_lt_two_pow hb]
  ·cases hS:S n with
   | true=>rw [if_pos rfl,Nat.testBit_two_pow_add_gt (by omega)];exact ih (by omega)
   | false=>rw [if_neg (by simp),Nat.zero_add];exact ih (by omega)
structure Db (ns:List Nd) (N:Nat) (m:Nat→Nat→Bool):Prop where
 fits:∀ i,i<N→xE ns (m i)
 read:∀ i,i<N→∃ x,x<8∧pV ns (m i) x
 all:∀ S x,x<8→xE ns S→pV ns S x→∃ i,i<N∧dh ns.length S (m i)
theorem Ae {ns:List Nd} (hw:fO ns) {S T:Nat→Bool} (h:dh ns.length S T) (hf:xE ns S):xE ns T:=fun k hk=>by
 obtain ⟨h1,h2,h3⟩:=lF hw (iO hk)
 have:=hf k hk
 unfold gq at this ⊢
 rw [←h k h1,←h _ h2,←h _ h3]
 exact this
theorem zH {ns:List Nd} {S T:Nat→Bool} (h:dh ns.length S T) {x:Nat} (hf:pV ns S x):pV ns T x:=fun k hk=>by
 have:=hf k hk
 unfold nK at this ⊢
 rw [←h k hk]
 exact this
theorem BU {ns:List Nd} (hw:fO ns) {S T S' T':Nat→Bool} (h:dh ns.length S S') (h':dh ns.length T T') (hf:zZ ns S T):zZ ns S' T':=fun k hk=>by
 obtain ⟨h1,h2,h3⟩:=lF hw (iO hk)
 have:=hf k hk
 unfold gm at this ⊢
 rw [←h k h1,←h _ h2,←h _ h3,←h' k h1,←h' _ h2]
 exact this
theorem F9 {ns:List Nd} (hw:fO ns) {S T:Nat→Bool} (h:dh ns.length S T) {k:Nat} (hk:k<ns.length):fD (ai ns k) k S=fD (ai ns k) k T:=by
 obtain ⟨h1,h2,h3⟩:=lF hw (iO hk)
 unfold fD
 rw [h k h1,h _ h2,h _ h3]
def CS (ns:List Nd) (N:Nat) (m:Nat→Nat→Bool) (i j:Nat):Prop:=i<N∧j<N∧zZ ns (m i) (m j)
def Lx (ns:List Nd) (m:Nat→Nat→Bool) (k i:Nat):Prop:=fD (ai ns k) k (m i)=true
theorem Wh {ns:List Nd} (hw:fO ns) {N:Nat} {m:Nat→Nat→Bool} (hA:Db ns N m) {i:Nat} (hi:i<N) :
  chain ns [] (m i)↔∃ q,q 0=i∧Path (CS ns N m) q∧tQ (Lx ns m) ns.length q:=by
 constructor
 ·rintro ⟨x,S,h1,h2,h3⟩
  have ex:∀ t,∃ j,j<N∧dh ns.length (S t) (m j):=fun t=>by
   obtain ⟨f1,f2,_⟩:=(jF hw (x t) (S t) (S (t+1))).1 (h2.step t)
   exact hA.all (S t) (x t) (h1 t) f1 f2
  let q:Nat→Nat:=fun t=>if t=0 then i else Classical.choose (ex t)
  have hq:∀ t,q t<N∧dh ns.length (S t) (m (q t)):=fun t=>by
   by_cases e:t=0
   ·subst e;exact ⟨hi,h3⟩
   ·have e2:q t=Classical.choose (ex t):=if_neg e
    rw [e2];exact Classical.choose_spec (ex t)
  refine ⟨q,if_pos rfl,fun t=>⟨(hq t).1,(hq (t+1)).1,?_⟩,fun k hk t=>?_⟩
  ·obtain ⟨_,_,f3⟩:=(jF hw (x t) (S t) (S (t+1))).1 (h2.step t)
   exact BU hw (hq t).2 (hq (t+1)).2 f3
  ·obtain ⟨t',ht,h4⟩:=h2.kept k _ (iO hk) t
   exact ⟨t',ht,by unfold Lx;rw [←F9 hw (hq t').2 hk];exact h4⟩
 ·rintro ⟨q,q0,hq,hm⟩
  have hN:∀ t,q t<N:=fun t=>(hq t).1
  let x:Nat→Nat:=fun t=>Classical.choose (hA.read (q t) (hN t))
  have hx:∀ t,x t<8∧pV ns (m (q t)) (x t):=fun t=>Classical.choose_spec (hA.read (q t) (hN t))
  refine ⟨x,fun t=>m (q t),fun t=>(hx t).1,⟨fun t=>?_,fun k nd hn t=>?_⟩,by show dh _ (m (q 0)) (m i);rw [q0];exact dh.refl _ _⟩
  ·exact (jF hw _ _ _).2 ⟨hA.fits _ (hN t),(hx t).2,(hq t).2.2⟩
  ·obtain ⟨hk,e⟩:=Im hn
   obtain ⟨t',ht,h4⟩:=hm k hk t
   subst e
   exact ⟨t',ht,h4⟩
theorem Wi {ns:List Nd} (hw:fO ns) {N:Nat} {m:Nat→Nat→Bool} (hA:Db ns N m) {i:Nat} (hi:i<N) :
  chain ns [] (m i)↔∃ c,c<N∧reach (CS ns N m) i c∧vB (CS ns N m) (Lx ns m) ns.length c:=by
 rw [Wh hw hA hi]
 exact yl (fun a b h=>h.2.1) hi
structure eQ (ns:List Nd) (M:Nat) (m:Nat→Nat→Bool):Prop where
 live:∀ i,i<M→chain ns [] (m i)
 all:∀ S,chain ns [] S→∃ i,i<M∧dh ns.length S (m i)
def JI (ns:List Nd) (M:Nat) (m:Nat→Nat→Bool) (P:Nat→Prop) (a:Nat) (j:Nat):Prop:=j<M∧∃ i,i<M∧P i∧pV ns (m i) a∧zZ ns (m i) (m j)
def rO (ns:List Nd) (M:Nat) (m:Nat→Nat→Bool):List Nat→(Nat→Prop)→Nat→Prop
 | [],P=>P
 | a::u,P=>rO ns M m u (JI ns M m P a)
theorem Ai {ns:List Nd} (hw:fO ns) {S:Nat→Bool} (h:chain ns [] S):xE ns S:=by
 obtain ⟨x,S',_,h2,h3⟩:=h
 exact Ae hw h3 ((jF hw _ _ _).1 (h2.step 0)).1
theorem KG {ns:List Nd} (hw:fO ns) {M:Nat} {m:Nat→Nat→Bool} (hL:eQ ns M m):∀ (u:List Nat) (P:Nat→Prop),(∀ x∈u,x<8)→(∀ i,P i→i<M)→((∃ j,rO ns M m u P j)↔∃ i,P i∧chain ns u (m i))
 | [],P,_,hP=>⟨fun ⟨j,h⟩=>⟨j,h,hL.live j (hP j h)⟩,fun ⟨i,h,_⟩=>⟨i,h⟩⟩
 | a::u,P,hu,hP=>by
  show (∃ j,rO ns M m u (JI ns M m P a) j)↔_
  rw [KG hw hL u _ (fun x hx=>hu x (List.mem_cons_of_mem _ hx)) (fun i h=>h.1)]
  constructor
  ·rintro ⟨j,⟨hj,i,hi,hp,hr,hf⟩,hc⟩
   exact ⟨i,hp,hu a (List.mem_cons_self ..),m j,(jF hw _ _ _).2 ⟨Ai hw (hL.live i hi),hr,hf⟩,hc⟩
  ·rintro ⟨i,hp,_,T,hs,hc⟩
   obtain ⟨j,hj,e⟩:=hL.all T (Gs hw hc)
   obtain ⟨_,f2,f3⟩:=(jF hw _ _ _).1 hs
   exact ⟨j,⟨hj,i,hP i hp,hp,f2,BU hw (dh.refl _ _) e f3⟩,yn hw e hc⟩
theorem LX {ns:List Nd} (hg:Good ns) {M:Nat} {m:Nat→Nat→Bool} (hL:eQ ns M m) (u:List Nat) (hu:∀ x∈u,x<8) (b:Bool) :
  (∃ j,rO ns M m u (fun i=>i<M∧m i (ns.length - 1)=b) j)↔May ns u b:=by
 have hp:=hg.pos
 rw [KG hg.wf hL u _ hu (fun i h=>h.1),QP hg]
 constructor
 ·rintro ⟨i,⟨_,h⟩,hc⟩;exact ⟨m i,h,hc⟩
 ·rintro ⟨S,h,hc⟩
  obtain ⟨i,hi,e⟩:=hL.all S (Gs hg.wf hc)
  exact ⟨i,⟨hi,by rw [←e _ (by omega)];exact h⟩,yn hg.wf e hc⟩
open Go.RowKit
set_option linter.unusedVariables false
def bZ (bs:List Nat) (k:Nat):Nat:=bs.getD k 0
structure FR (w:World) (F gp cap:Nat) (ns:List Nd) (bs:List Nat):Prop where
 c0:w.cell? ⟨F,0,none⟩=some (.slice (some ⟨gp,0,none⟩) ns.length cap)
 hcap:ns.length≤cap
 JL:F<w.heap.size
 ltp:gp<w.heap.size
 ptr:∀ k,k<ns.length→w.cell? ⟨gp,k,none⟩=some (.pointer (some ⟨bZ bs k,0,none⟩))
 op:∀ k,k<ns.length→w.cell? ⟨bZ bs k,0,none⟩=some (.int .u8 (ai ns k).op)
 lp:∀ k,k<ns.length→aP (ai ns k).op=false→w.cell? ⟨bZ bs k,1,none⟩=some (.pointer (some ⟨bZ bs (ai ns k).l,0,none⟩))
 rp:∀ k,k<ns.length→bz (ai ns k).op=true→w.cell? ⟨bZ bs k,2,none⟩=some (.pointer (some ⟨bZ bs (ai ns k).r,0,none⟩))
 nn:∀ k,k<ns.length→w.cell? ⟨bZ bs k,3,none⟩=some (.int .i64 k)
 V4:∀ k,k<ns.length→bZ bs k<w.heap.size
theorem FR.below {w w':World} {F gp cap:Nat} {ns:List Nd} {bs:List Nat} (h:FR w F gp cap ns bs) (hb:Below w.heap.size w w'):FR w' F gp cap ns bs:=
 ⟨(hb.cell (p:=⟨F,0,none⟩) h.JL).trans h.c0,h.hcap,Nat.lt_of_lt_of_le h.JL hb.size,Nat.lt_of_lt_of_le h.ltp hb.size,fun k hk=>(hb.cell (p:=⟨gp,k,none⟩) h.ltp).trans (h.ptr k hk),
  fun k hk=>(hb.cell (p:=⟨bZ bs k,0,none⟩) (h.V4 k hk)).trans (h.op k hk),fun k hk e=>(hb.cell (p:=⟨bZ bs k,1,none⟩) (h.V4 k hk)).trans (h.lp k hk e),fun k hk e=>(hb.cell (p:=⟨bZ bs k,2,none⟩) (h.V4 k hk)).trans (h.rp k hk e),
  fun k hk=>(hb.cell (p:=⟨bZ bs k,3,none⟩) (h.V4 k hk)).trans (h.nn k hk),fun k hk=>Nat.lt_of_lt_of_le (h.V4 k hk) hb.size⟩
theorem LB {w:World} {F:Nat} {ns:List Nd} {bs:List Nat} (h:Fm w F ns bs) (hp:0<ns.length):∃ gp cap,FR w F gp cap ns bs:=by
 obtain ⟨ao,cap,hc,own⟩:=h.c0
 obtain ⟨gp,rfl,_,hg,hcap⟩:=pu own hp
 have part:∀ k,k<ns.length→w.heap[bZ bs k]?=some (bu bs k (ai ns k)):=fun k hk=>by
  obtain ⟨b,hb,_,hh⟩:=h.parts k _ (iO hk)
  have:bZ bs k=b:=by simp [bZ,List.getD,hb]
  rw [this];exact hh
 refine ⟨gp,cap,hc,hcap,h.rf,hg,fun k hk=>?_,fun k hk=>?_,fun k hk e=>?_,fun k hk e=>?_,fun k hk=>?_,fun k hk=>bO (part k hk)⟩
 ·have hk2:k<bs.length:=by rw [h.len];exact hk
  rw [own.cellAt k (by omega)]
  simp [kF,bZ,List.getD,List.getElem?_eq_getElem hk2]
 ·rw [cell_of_row w _ _ _ _ _ (part k hk)];rfl
 ·rw [cell_of_row w _ _ _ _ _ (part k hk)];simp [jT,e,bZ]
 ·rw [cell_of_row w _ _ _ _ _ (part k hk)];simp [jR,e,bZ]
 ·rw [cell_of_row w _ _ _ _ _ (part k hk)];rfl
theorem Rb.drewN {w:World} {g n:Nat} {f:Nat→Bool} (h:Rb w g n f) (m:Nat):Rb (w.drewN m) g n f:=⟨h.lt,h.cell⟩
def Cn (ns:List Nd) (p:Nd→Nat→Bool):Bool:=(List.range ns.length).all fun k=>p (ai ns k) k
theorem qi {ns:List Nd} {p:Nd→Nat→Bool}:Cn ns p=true↔∀ k,k<ns.length→p (ai ns k) k=true:=by simp [Cn,List.all_eq_true]
theorem I7 {ns:List Nd} {p:Nd→Nat→Bool} {k:Nat} (hk:k<ns.length) (h:p (ai ns k) k=false):Cn ns p=false:=by
 cases e:Cn ns p with
 | false=>rfl
 | true=>rw [qi] at e;rw [e k hk] at h;cases h
def xG (ns:List Nd) (S:Nat→Bool):Bool:=Cn ns fun nd k=>gq nd k S
def gB (ns:List Nd) (S:Nat→Bool) (x:Nat):Bool:=Cn ns fun nd k=>nK nd k S x
def Aa (ns:List Nd) (S T:Nat→Bool):Bool:=Cn ns fun nd k=>gm nd k S T
theorem Xj {ns:List Nd} {S:Nat→Bool}:xG ns S=true↔xE ns S:=qi
theorem l8 {ns:List Nd} {S:Nat→Bool} {x:Nat}:gB ns S x=true↔pV ns S x:=qi
theorem z8 {ns:List Nd} {S T:Nat→Bool}:Aa ns S T=true↔zZ ns S T:=qi
end Go.Proofs.YtjagijohfkffiabGreat
