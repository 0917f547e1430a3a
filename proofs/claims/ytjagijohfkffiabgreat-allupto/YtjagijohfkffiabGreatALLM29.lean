import Derived.Test.YtjagijohfkffiabGreatALLM17
import Derived.Test.YtjagijohfkffiabGreatALLM27
set_option maxHeartbeats 16000000
set_option maxRecDepth 100000
namespace Go.Proofs.YtjagijohfkffiabGreat
set_option linter.unusedVariables false
def Cq:Nat→Nat→List Nd→Prop
 | 0,_,_=>False
 | k+1,b,ns=>(∃ op,aP op=true∧ns=[⟨op,0,0⟩])∨(∃ op ms,dB op=true∧Cq k b ms∧ns=ms++[⟨op,b+ms.length - 1,0⟩])
  ∨ (∃ op ms ls,bz op=true∧Cq k b ms∧Cq k (b+ms.length) ls∧ns=ms++ls++[⟨op,b+ms.length - 1,b+ms.length+ls.length - 1⟩])
def Seg (b:Nat) (ms:List Nd):Prop:=∃ k,Cq k b ms
theorem xg:∀ (k b:Nat) (ms:List Nd),Cq k b ms→Cq (k+1) b ms
 | 0,_,_,h=>h.elim
 | k+1,b,ms,h=>by
  rcases h with h | ⟨op,m,h1,h2,h3⟩ | ⟨op,m,l,h1,h2,h3,h4⟩
  ·exact Or.inl h
  ·exact Or.inr (Or.inl ⟨op,m,h1,xg k b m h2,h3⟩)
  ·exact Or.inr (Or.inr ⟨op,m,l,h1,xg k b m h2,xg k _ l h3,h4⟩)
theorem Ig {k b:Nat} {ms:List Nd} (h:Cq k b ms):∀ d,Cq (k+d) b ms
 | 0=>h
 | d+1=>xg _ _ _ (Ig h d)
theorem Seg.leaf (b op:Nat) (h:aP op=true):Seg b [⟨op,0,0⟩]:=⟨1,Or.inl ⟨op,h,rfl⟩⟩
theorem Seg.one (b op:Nat) (ms:List Nd) (h:dB op=true) (hs:Seg b ms):Seg b (ms++[⟨op,b+ms.length - 1,0⟩]):=by
 obtain ⟨k,hk⟩:=hs
 exact ⟨k+1,Or.inr (Or.inl ⟨op,ms,h,hk,rfl⟩)⟩
theorem Seg.two (b op:Nat) (ms ls:List Nd) (h:bz op=true) (h1:Seg b ms) (h2:Seg (b+ms.length) ls):Seg b (ms++ls++[⟨op,b+ms.length - 1,b+ms.length+ls.length - 1⟩]):=by
 obtain ⟨k,hk⟩:=h1
 obtain ⟨j,hj⟩:=h2
 refine ⟨(k+j)+1,Or.inr (Or.inr ⟨op,ms,ls,h,Ig hk j,?_,rfl⟩)⟩
 rw [Nat.add_comm]
 exact Ig hj k
theorem yF {motive:(b:Nat)→(ms:List Nd)→Seg b ms→Prop} (leaf:∀ (b op:Nat) (h:aP op=true),motive b [⟨op,0,0⟩] (Seg.leaf b op h))
  (one:∀ (b op:Nat) (ms:List Nd) (h:dB op=true) (hs:Seg b ms),motive b ms hs→motive b (ms++[⟨op,b+ms.length - 1,0⟩]) (Seg.one b op ms h hs))
  (two:∀ (b op:Nat) (ms ls:List Nd) (h:bz op=true) (h1:Seg b ms) (h2:Seg (b+ms.length) ls),motive b ms h1→motive (b+ms.length) ls h2→motive b (ms++ls++[⟨op,b+ms.length - 1,b+ms.length+ls.length - 1⟩]) (Seg.two b op ms ls h h1 h2))
  {b:Nat} {ms:List Nd} (t:Seg b ms):motive b ms t:=by
 obtain ⟨k,hk⟩:=t
 induction k generalizing b ms with
 | zero=>exact hk.elim
 | succ k ih=>
  have hk':=hk
  rcases hk' with ⟨op,h,rfl⟩ | ⟨op,m,h1,h2,rfl⟩ | ⟨op,m,l,h1,h2,h3,rfl⟩
  ·exact leaf b op h
  ·exact one b op m h1 ⟨k,h2⟩ (ih h2)
  ·exact two b op m l h1 ⟨k,h2⟩ ⟨k,h3⟩ (ih h2) (ih h3)
theorem FE:∀ (k:Nat) (s:ByteArray) (a:Nat) (ns:List Nd) (a':Nat) (ns':List Nd),ps k s a ns=some (a',ns')→∃ ms,ns'=ns++ms∧Seg ns.length ms
 | 0,_,_,_,_,_,h=>by simp [ps] at h
 | k+1,s,a,ns,a',ns',h=>by
  by_cases b1:aP (bt s a)=true
  ·rw [nA b1] at h
   simp only [Option.some.injEq,Prod.mk.injEq] at h
   obtain ⟨rfl,rfl⟩:=h
   exact ⟨_,rfl,Seg.leaf _ _ b1⟩
  ·rw [Bool.not_eq_true] at b1
   by_cases b2:dB (bt s a)=true
   ·rw [qY b2] at h
    unfold tY at h
    cases e:ps k s (a+1) ns with
    | none=>rw [e] at h;simp at h
    | some x=>
     obtain ⟨a1,n1⟩:=x
     rw [e] at h
     simp only [Option.some.injEq,Prod.mk.injEq] at h
     obtain ⟨rfl,rfl⟩:=h
     obtain ⟨ms,rfl,hs⟩:=FE k s _ _ _ _ e
     refine ⟨_,List.append_assoc _ _ _,?_⟩
     rw [List.length_append]
     exact Seg.one _ _ _ b2 hs
   ·rw [Bool.not_eq_true] at b2
    by_cases b3:bt s a=40
    ·rw [nS b3] at h
     unfold ps2 at h
     cases e:ps k s (a+1) ns with
     | none=>rw [e] at h;simp at h
     | some x=>
      obtain ⟨a1,n1⟩:=x
      rw [e] at h
      simp only at h
      by_cases b4:bz (bt s a1)=true
      ·rw [if_pos b4] at h
       cases e2:ps k s (a1+1) n1 with
       | none=>rw [e2] at h;simp at h
       | some x=>
        obtain ⟨a2,n2⟩:=x
        rw [e2] at h
        simp only at h
        by_cases b5:bt s a2=41
        ·rw [if_pos b5] at h
         simp only [Option.some.injEq,Prod.mk.injEq] at h
         obtain ⟨rfl,rfl⟩:=h
         obtain ⟨ms,rfl,h1⟩:=FE k s _ _ _ _ e
         obtain ⟨ls,rfl,h2⟩:=FE k s _ _ _ _ e2
         rw [List.length_append] at h2
         have h3:=Seg.two ns.length (bt s a1) ms ls b4 h1 h2
         refine ⟨_,?_,h3⟩
         simp only [List.append_assoc,List.length_append]
         rw [show ns.length+(ms.length+ls.length) - 1=ns.length+ms.length+ls.length - 1 by omega]
        ·rw [if_neg b5] at h;simp at h
      ·rw [if_neg b4] at h;simp at h
    ·rw [CL b1 b2 b3] at h;simp at h
theorem xw {s:ByteArray} (h:(af s).1=0):Seg 0 (af s).2:=by
 unfold af at h ⊢
 split at h
 ·simp at h
 ·rename_i h1
  rw [if_neg h1]
  cases e:ps 25 s 0 [] with
  | none=>rw [e] at h;simp at h
  | some x=>
   obtain ⟨a,ns⟩:=x
   rw [e] at h
   simp only at h ⊢
   split at h
   ·rename_i h2
    rw [if_pos h2]
    split at h
    ·simp at h
    ·rename_i h3
     rw [if_neg h3]
     obtain ⟨ms,e2,hs⟩:=FE _ _ _ _ _ _ e
     simp only [List.nil_append] at e2
     subst e2
     exact hs
   ·simp at h
theorem sJ {b:Nat} {ms:List Nd} (h:Seg b ms):0<ms.length:=by
 induction h using yF <;> simp <;> omega
theorem xe {b:Nat} {ms:List Nd} (h:Seg b ms):∀ i nd,ms[i]?=some nd→aP nd.op=true∨(dB nd.op=true∧b≤nd.l∧nd.l<b+i)∨(bz nd.op=true∧b≤nd.l∧nd.l<b+i∧b≤nd.r∧nd.r<b+i):=by
 induction h using yF with
 | leaf b op ho=>
  intro i nd hi
  cases i with
  | zero=>simp at hi;subst hi;exact Or.inl ho
  | succ i=>simp at hi
 | one b op ms ho hs ih=>
  intro i nd hi
  have hp:=sJ hs
  by_cases e:i<ms.length
  ·rw [List.getElem?_append_left e] at hi;exact ih i nd hi
  ·rw [List.getElem?_append_right (by omega)] at hi
   have e2:i=ms.length:=by
    have:=(List.getElem?_eq_some_iff.1 hi).1
    simp at this;omega
   subst e2
   simp at hi
   subst hi
   exact Or.inr (Or.inl ⟨ho,by simp only;omega,by simp only;omega⟩)
 | two b op ms ls ho h1 h2 ih1 ih2=>
  intro i nd hi
  have p1:=sJ h1
  have p2:=sJ h2
  by_cases e:i<ms.length+ls.length
  ·rw [List.getElem?_append_left (by rw [List.length_append];exact e)] at hi
   by_cases e1:i<ms.length
   ·rw [List.getElem?_append_left e1] at hi;exact ih1 i nd hi
   ·rw [List.getElem?_append_right (by omega)] at hi
    rcases ih2 _ nd hi with h | ⟨h,h3,h4⟩ | ⟨h,h3,h4,h5,h6⟩
    ·exact Or.inl h
    ·exact Or.inr (Or.inl ⟨h,by omega,by omega⟩)
    ·exact Or.inr (Or.inr ⟨h,by omega,by omega,by omega,by omega⟩)
  ·rw [List.getElem?_append_right (by rw [List.length_append];omega)] at hi
   have e2:i=ms.length+ls.length:=by
    have:=(List.getElem?_eq_some_iff.1 hi).1
    simp at this;omega
   subst e2
   simp at hi
   subst hi
   exact Or.inr (Or.inr ⟨ho,by simp only;omega,by simp only;omega,by simp only;omega,by simp only;omega⟩)
def Co (σ:Nat→Bool) (j:Nat) (nd:Nd):Prop:=(dB nd.op=true→σ nd.l=(if nd.op=33 then !σ j else σ j))∧(bz nd.op=true→σ nd.l=σ j∧σ nd.r=σ j)
theorem vZ {σ τ:Nat→Bool} {j:Nat} {nd:Nd} (h:Co σ j nd) (hj:τ j=σ j) (hl:dB nd.op=true∨bz nd.op=true→τ nd.l=σ nd.l) (hr:bz nd.op=true→τ nd.r=σ nd.r):Co τ j nd:=
 ⟨fun ho=>by rw [hl (Or.inl ho),hj];exact h.1 ho,fun ho=>by rw [hl (Or.inr ho),hr ho,hj];exact h.2 ho⟩
theorem JQ {σ:Nat→Bool} {j:Nat} {nd:Nd} (h:aP nd.op=true):Co σ j nd:=by
 have h1:dB nd.op=false:=by
  cases e:dB nd.op with
  | false=>rfl
  | true=>rw [jw e] at h;cases h
 have h2:bz nd.op=false:=by
  simp only [aP,Bool.or_eq_true,beq_iff_eq] at h
  rcases h with (((h | h) | h) | h) | h <;> rw [h] <;> decide
 exact ⟨fun h=>(by rw [h1] at h;cases h),fun h=>(by rw [h2] at h;cases h)⟩
theorem PS {b:Nat} (h:bz b=true):dB b=false:=by
 simp only [bz,Bool.or_eq_true,beq_iff_eq] at h
 rcases h with ((h | h) | h) | h <;> rw [h] <;> decide
theorem Mo {b:Nat} {ms:List Nd} (h:Seg b ms):∀ s:Bool,∃ σ:Nat→Bool,σ (b+ms.length - 1)=s∧∀ i nd,ms[i]?=some nd→Co σ (b+i) nd:=by
 induction h using yF with
 | leaf b op ho=>
  intro s
  refine ⟨fun _=>s,rfl,fun i nd hi=>?_⟩
  cases i with
  | zero=>simp at hi;subst hi;exact JQ ho
  | succ i=>simp at hi
 | one b op ms ho hs ih=>
  intro s
  have hp:=sJ hs
  obtain ⟨σ,h1,h2⟩:=ih (if op=33 then !s else s)
  refine ⟨fun j=>if j=b+ms.length then s else σ j,by simp,fun i nd hi=>?_⟩
  by_cases e:i<ms.length
  ·rw [List.getElem?_append_left e] at hi
   refine vZ (h2 i nd hi) (by rw [if_neg (by omega)]) (fun hh=>?_) (fun hh=>?_)
   ·rw [if_neg]
    rcases xe hs i nd hi with h | ⟨h,h3,h4⟩ | ⟨h,h3,h4,h5,h6⟩
    ·have l1:dB nd.op=false:=by
      cases e:dB nd.op with
      | false=>rfl
      | true=>rw [jw e] at h;cases h
     have l2:=(JQ (σ:=fun _=>true) (j:=0) h)
     rcases hh with hh | hh
     ·rw [l1] at hh;cases hh
     ·have:bz nd.op=false:=by
       simp only [aP,Bool.or_eq_true,beq_iff_eq] at h
       rcases h with (((h | h) | h) | h) | h <;> rw [h] <;> decide
      rw [this] at hh;cases hh
    ·omega
    ·omega
   ·rw [if_neg]
    rcases xe hs i nd hi with h | ⟨h,h3,h4⟩ | ⟨h,h3,h4,h5,h6⟩
    ·have:bz nd.op=false:=by
      simp only [aP,Bool.or_eq_true,beq_iff_eq] at h
      rcases h with (((h | h) | h) | h) | h <;> rw [h] <;> decide
     rw [this] at hh;cases hh
    ·rw [jX h] at hh;cases hh
    ·omega
  ·rw [List.getElem?_append_right (by omega)] at hi
   have e2:i=ms.length:=by
    have:=(List.getElem?_eq_some_iff.1 hi).1
    simp at this;omega
   subst e2
   simp at hi
   subst hi
   refine ⟨fun _=>?_,fun hh=>(by rw [jX ho] at hh;cases hh)⟩
   dsimp only
   rw [if_neg (by omega),if_pos rfl,h1]
 | two b op ms ls ho h1 h2 ih1 ih2=>
  intro s
  have p1:=sJ h1
  have p2:=sJ h2
  obtain ⟨σ1,a1,a2⟩:=ih1 s
  obtain ⟨σ2,b1,b2⟩:=ih2 s
  have Lv:∀ {nd:Nd},aP nd.op=true→bz nd.op=false:=fun {nd} h=>by
   simp only [aP,Bool.or_eq_true,beq_iff_eq] at h
   rcases h with (((h | h) | h) | h) | h <;> rw [h] <;> decide
  have abb:∀ {nd:Nd},aP nd.op=true→dB nd.op=false:=fun {nd} h=>by
   simp only [aP,Bool.or_eq_true,beq_iff_eq] at h
   rcases h with (((h | h) | h) | h) | h <;> rw [h] <;> decide
  refine ⟨fun j=>if j<b+ms.length then σ1 j else if j<b+ms.length+ls.length then σ2 j else s,?_,fun i nd hi=>?_⟩
  ·simp only [List.length_append,List.length_singleton]
   rw [if_neg (by omega),if_neg (by omega)]
  ·by_cases e:i<ms.length+ls.length
   ·rw [List.getElem?_append_left (by rw [List.length_append];exact e)] at hi
    by_cases e1:i<ms.length
    ·rw [List.getElem?_append_left e1] at hi
     have r:=xe h1 i nd hi
     refine vZ (a2 i nd hi) (by rw [if_pos (by omega)]) (fun hh=>?_) (fun hh=>?_)
     ·rcases r with h | ⟨h,h3,h4⟩ | ⟨h,h3,h4,h5,h6⟩
      ·rcases hh with hh | hh
       ·rw [abb h] at hh;cases hh
       ·rw [Lv h] at hh;cases hh
      ·rw [if_pos (by omega)]
      ·rw [if_pos (by omega)]
     ·rcases r with h | ⟨h,h3,h4⟩ | ⟨h,h3,h4,h5,h6⟩
      ·rw [Lv h] at hh;cases hh
      ·rw [jX h] at hh;cases hh
      ·rw [if_pos (by omega)]
    ·rw [List.getElem?_append_right (by omega)] at hi
     have r:=xe h2 _ nd hi
     have key:=b2 _ nd hi
     rw [show b+ms.length+(i - ms.length)=b+i by omega] at key
     refine vZ key (by rw [if_neg (by omega),if_pos (by omega)]) (fun hh=>?_) (fun hh=>?_)
     ·rcases r with h | ⟨h,h3,h4⟩ | ⟨h,h3,h4,h5,h6⟩
      ·rcases hh with hh | hh
       ·rw [abb h] at hh;cases hh
       ·rw [Lv h] at hh;cases hh
      ·rw [if_neg (by omega),if_pos (by omega)]
      ·rw [if_neg (by omega),if_pos (by omega)]
     ·rcases r with h | ⟨h,h3,h4⟩ | ⟨h,h3,h4,h5,h6⟩
      ·rw [Lv h] at hh;cases hh
      ·rw [jX h] at hh;cases hh
      ·rw [if_neg (by omega),if_pos (by omega)]
   ·rw [List.getElem?_append_right (by rw [List.length_append];omega)] at hi
    have e2:i=ms.length+ls.length:=by
     have:=(List.getElem?_eq_some_iff.1 hi).1
     simp at this;omega
    subst e2
    simp at hi
    subst hi
    refine ⟨fun hh=>(by rw [PS ho] at hh;cases hh),fun _=>?_⟩
    dsimp only
    constructor
    ·rw [if_pos (show b+ms.length - 1<b+ms.length by omega),a1,if_neg (show ¬ b+(ms.length+ls.length)<b+ms.length by omega),if_neg (show ¬ b+(ms.length+ls.length)<b+ms.length+ls.length by omega)]
    ·rw [if_neg (show ¬ b+ms.length+ls.length - 1<b+ms.length by omega),if_pos (show b+ms.length+ls.length - 1<b+ms.length+ls.length by omega),b1,if_neg (show ¬ b+(ms.length+ls.length)<b+ms.length by omega),if_neg (show ¬ b+(ms.length+ls.length)<b+ms.length+ls.length by omega)]
theorem xy {α:Type} [DecidableEq α]:∀ (L M:List α),L.Nodup→(∀ x∈L,x∈M)→L.length≤M.length
 | [],M,_,_=>Nat.zero_le _
 | x::L,M,hd,hs=>by
  rw [List.nodup_cons] at hd
  have hx:=hs x (List.mem_cons_self ..)
  have h1:=xy L (M.erase x) hd.2 (fun y hy=>(List.mem_erase_of_ne (fun e=>hd.1 (by subst e;exact hy))).2 (hs y (List.mem_cons_of_mem _ hy)))
  rw [List.length_erase_of_mem hx] at h1
  have:0<M.length:=List.length_pos_of_mem hx
  simp;omega
def tab (n:Nat) (f:Nat→Bool):List Bool:=(List.range (2 ^ n)).map f
theorem ab6 (n:Nat) (f:Nat→Bool):(tab n f).length=2 ^ n:=by simp [tab]
theorem Ma (n:Nat) (f:Nat→Bool):tab (n+1) f=tab n f++tab n (fun b=>f (2 ^ n+b)):=by
 unfold tab
 rw [show 2 ^ (n+1)=2 ^ n+2 ^ n by omega,List.range_add,List.map_append,List.map_map]
 rfl
theorem QC {n:Nat} {f g:Nat→Bool} (h:tab n f=tab n g) {b:Nat} (hb:b<2 ^ n):f b=g b:=by
 have h1:(tab n f)[b]?=some (f b):=by simp [tab,hb]
 have h2:(tab n g)[b]?=some (g b):=by simp [tab,hb]
 rw [h,h2] at h1
 exact (Option.some.inj h1).symm
def adR (a b:Nat):Prop:=∀ i,a.testBit i=true→b.testBit i=true
def rQ (n:Nat) (f:Nat→Bool):Prop:=∀ a b,a<2 ^ n→b<2 ^ n→adR a b→f a=true→f b=true
theorem Mw {n:Nat} {f:Nat→Bool} (h:rQ (n+1) f):rQ n f:=fun a b ha hb hs hf=>h a b (by rw [Nat.pow_succ];omega) (by rw [Nat.pow_succ];omega) hs hf
theorem vV {n b:Nat} (hb:b<2 ^ n) (i:Nat):(2 ^ n+b).testBit i=(if i=n then true else b.testBit i):=by
 by_cases e:i=n
 ·subst e
  rw [if_pos rfl,Nat.testBit_two_pow_add_eq,Nat.testBit_lt_two_pow hb]
  rfl
 ·rw [if_neg e]
  by_cases h:i<n
  ·exact Nat.testBit_two_pow_add_gt h b
  ·have h1:2 ^ n+b<2 ^ i:=by
    have:2 ^ (n+1)≤2 ^ i:=Nat.pow_le_pow_right (by omega) (by omega)
    rw [Nat.pow_succ] at this
    omega
   rw [Nat.testBit_lt_two_pow h1,Nat.testBit_lt_two_pow (Nat.lt_of_lt_of_le hb (Nat.pow_le_pow_right (by omega) (by omega)))]
theorem Jz {n:Nat} {f:Nat→Bool} (h:rQ (n+1) f):rQ n (fun b=>f (2 ^ n+b)):=fun a b ha hb hs hf=>
 h (2 ^ n+a) (2 ^ n+b) (by rw [Nat.pow_succ];omega) (by rw [Nat.pow_succ];omega) (fun i hi=>by
  rw [vV ha] at hi
  rw [vV hb]
  split
  ·rfl
  ·rename_i e;rw [if_neg e] at hi;exact hs i hi) hf
theorem Vy {n:Nat} {f:Nat→Bool} (h:rQ (n+1) f):∀ b,b<2 ^ n→f b=true→f (2 ^ n+b)=true:=fun b hb hf=>
 h b (2 ^ n+b) (by rw [Nat.pow_succ];omega) (by rw [Nat.pow_succ];omega) (fun i hi=>by
  rw [vV hb]
  split
  ·rfl
  ·exact hi) hf
def OV:Nat→List (List Bool)
 | 0=>[[]]
 | n+1=>(OV n).flatMap fun l=>[false::l,true::l]
theorem MZ:∀ (l:List Bool),l∈OV l.length
 | []=>by simp [OV]
 | b::l=>by
  simp only [List.length_cons,OV,List.mem_flatMap]
  exact ⟨l,MZ l,by cases b <;> simp⟩
def upB (l:List Bool):Bool:=(List.range 8).all fun a=>(List.range 8).all fun b=>!((a &&& b)==a)||(!(l.getD a false)||l.getD b false)
def leB (p q:List Bool):Bool:=(p.zip q).all fun x=>!x.1||x.2
def m3:List (List Bool):=(OV 8).filter upB
def m4:List (List Bool):=m3.flatMap fun p=>(m3.filter fun q=>leB p q).map fun q=>p++q
theorem aef:m4.length=168:=by decide +kernel
theorem YT {a b:Nat} (h:a &&& b=a):adR a b:=fun i hi=>by
 have:(a &&& b).testBit i=true:=by rw [h];exact hi
 rw [Nat.testBit_and,Bool.and_eq_true] at this
 exact this.2
theorem Mc {n:Nat} {f:Nat→Bool} {b:Nat} (hb:b<2 ^ n):(tab n f).getD b false=f b:=by simp [tab,List.getD,hb]
theorem VX {f:Nat→Bool} (h:rQ 3 f):tab 3 f∈m3:=by
 unfold m3
 rw [List.mem_filter]
 refine ⟨by have:=MZ (tab 3 f);rwa [ab6] at this,?_⟩
 unfold upB
 simp only [List.all_eq_true,List.mem_range]
 intro a ha b hb
 rw [Mc (n:=3) (by simpa using ha),Mc (n:=3) (by simpa using hb)]
 by_cases e:a &&& b=a
 ·cases hf:f a with
  | false=>simp
  | true=>simp [h a b (by simpa using ha) (by simpa using hb) (YT e) hf]
 ·have:((a &&& b)==a)=false:=beq_eq_false_iff_ne.2 e
  simp [this]
theorem acY {n:Nat} {f g:Nat→Bool} (h:∀ b,b<2 ^ n→f b=true→g b=true):leB (tab n f) (tab n g)=true:=by
 unfold leB tab
 rw [List.all_eq_true]
 intro x hx
 rw [List.zip_map',List.mem_map] at hx
 obtain ⟨b,hb,rfl⟩:=hx
 have:=h b (by simpa using hb)
 dsimp only
 cases hf:f b with
 | false=>rfl
 | true=>simp [this hf]
theorem aed {f:Nat→Bool} (h:rQ 4 f):tab 4 f∈m4:=by
 rw [Ma]
 unfold m4
 rw [List.mem_flatMap]
 refine ⟨_,VX (Mw h),?_⟩
 rw [List.mem_map]
 exact ⟨_,List.mem_filter.2 ⟨VX (Jz h),acY (Vy h)⟩,rfl⟩
def twice (M:List (List Bool)):List (List Bool):=M.flatMap fun p=>M.map fun q=>p++q
theorem Ji (M:List (List Bool)):(twice M).length=M.length*M.length:=by
 unfold twice
 rw [List.length_flatMap]
 have:(M.map fun p=>(M.map fun q=>p++q).length)=List.replicate M.length M.length:=by
  rw [List.eq_replicate_iff]
  exact ⟨by simp,fun b hb=>by simp at hb;obtain ⟨_,_,rfl⟩:=hb;rfl⟩
 rw [this]
 simp
theorem JK {n:Nat} {M:List (List Bool)} (hM:∀ f,rQ n f→tab n f∈M) {f:Nat→Bool} (h:rQ (n+1) f):tab (n+1) f∈twice M:=by
 rw [Ma]
 unfold twice
 rw [List.mem_flatMap]
 exact ⟨_,hM _ (Mw h),List.mem_map.2 ⟨_,hM _ (Jz h),rfl⟩⟩
def m6:List (List Bool):=twice (twice m4)
theorem VZ:m6.length=796594176:=by
 unfold m6
 rw [Ji,Ji,aef]
theorem VW {f:Nat→Bool} (h:rQ 6 f):tab 6 f∈m6:=JK (fun g hg=>JK (fun k hk=>aed hk) hg) h
def oW (s a b:Bool):Prop:=if s=true then (a=true→b=true) else (b=true→a=true)
theorem Et (s a:Bool):oW s a a:=by unfold oW;split <;> exact id
theorem aeh {s a b:Bool} (h:oW s a b) (k:oW s b a):a=b:=by
 unfold oW at h k
 cases s <;> cases a <;> cases b <;> simp_all
theorem FZ {s a b a' b':Bool} (h:oW s a a') (k:oW s b b'):oW s (a||b) (a'||b'):=by
 unfold oW at *
 cases s <;> cases a <;> cases b <;> cases a' <;> cases b' <;> simp_all
theorem CQ {s a b a' b':Bool} (h:oW s a a') (k:oW s b b'):oW s (a&&b) (a'&&b'):=by
 unfold oW at *
 cases s <;> cases a <;> cases b <;> cases a' <;> cases b' <;> simp_all
theorem acX {s a a':Bool} (h:oW (!s) a a'):oW s (!a) (!a'):=by
 unfold oW at *
 cases s <;> cases a <;> cases a' <;> simp_all
def uQ (op:Nat):Bool:=op==70||op==71||op==85||op==82||op==88
def iD:Nat→List Nd→List Nat
 | _,[]=>[]
 | i,nd::ms=>(if uQ nd.op=true then [if nd.op=88 then nd.l else i] else [])++iD (i+1) ms
theorem MX:∀ (ms:List Nd) (i j:Nat) (nd:Nd),ms[j]?=some nd→uQ nd.op=true→(if nd.op=88 then nd.l else i+j)∈iD i ms
 | [],i,j,nd,h,_=>by simp at h
 | n0::ms,i,j,nd,h,ht=>by
  rw [iD,List.mem_append]
  cases j with
  | zero=>
   simp at h
   subst h
   left
   rw [if_pos ht]
   simp
  | succ j=>
   right
   have:=MX ms (i+1) j nd (by simpa using h) ht
   rwa [show i+1+j=i+(j+1) by omega] at this
def vo (σ:Nat→Bool) (ns:List Nd):Prop:=∀ i nd,ns[i]?=some nd→Co σ i nd
def LeR (ns:List Nd) (σ:Nat→Bool) (N N':Nat):Prop:=∀ k,k∈iD 0 ns→oW (σ k) (N.testBit k) (N'.testBit k)
theorem Ov {ns:List Nd} (hg:Good ns) {σ:Nat→Bool} (hs:vo σ ns) {x N N':Nat} (hr:LeR ns σ N N'):∀ k,k<ns.length→oW (σ k) ((eT ns x N).testBit k) ((eT ns x N').testBit k):=by
 have key:∀ n k,k<n→k<ns.length→oW (σ k) ((eT ns x N).testBit k) ((eT ns x N').testBit k):=by
  intro n
  induction n with
  | zero=>intro k h;omega
  | succ n ih=>
   intro k hk hkl
   obtain ⟨nd,hn⟩:∃ nd,ns[k]?=some nd:=⟨ns[k],List.getElem?_eq_getElem hkl⟩
   have e1:=jd hg x N k nd hn
   have e2:=jd hg x N' k nd hn
   simp only [tb] at e1 e2
   rw [e1,e2]
   have sg:=hs k nd hn
   have rel:=fun ht=>hr _ (MX ns 0 k nd hn ht)
   rcases hg.wf k nd hn with ⟨h,_,_⟩ | ⟨h,hl,_⟩ | ⟨h,hl,hr2⟩
   ·simp only [aP,Bool.or_eq_true,beq_iff_eq] at h
    rcases h with (((h | h) | h) | h) | h <;> simp only [aK,h] <;> exact Et _ _
   ·have s1:=sg.1 h
    have i1:=ih nd.l (by omega) (by omega)
    rw [s1] at i1
    simp only [dB,Bool.or_eq_true,beq_iff_eq] at h
    rcases h with ((h | h) | h) | h
    ·rw [if_pos h] at i1
     simp only [aK,h]
     exact acX i1
    ·rw [if_neg (by omega)] at s1
     have r1:=rel (by rw [h];decide)
     rw [if_pos h,s1] at r1
     simp only [aK,h]
     exact r1
    ·rw [if_neg (by omega)] at i1
     have r1:=rel (by rw [h];decide)
     rw [if_neg (by omega),Nat.zero_add] at r1
     simp only [aK,h]
     exact FZ i1 r1
    ·rw [if_neg (by omega)] at i1
     have r1:=rel (by rw [h];decide)
     rw [if_neg (by omega),Nat.zero_add] at r1
     simp only [aK,h]
     exact CQ i1 r1
   ·obtain ⟨s1,s2⟩:=sg.2 h
    have i1:=ih nd.l (by omega) (by omega)
    have i2:=ih nd.r (by omega) (by omega)
    rw [s1] at i1
    rw [s2] at i2
    simp only [bz,Bool.or_eq_true,beq_iff_eq] at h
    rcases h with ((h | h) | h) | h
    ·simp only [aK,h]
     exact CQ i1 i2
    ·simp only [aK,h]
     exact FZ i1 i2
    ·have r1:=rel (by rw [h];decide)
     rw [if_neg (by omega),Nat.zero_add] at r1
     simp only [aK,h]
     exact FZ i2 (CQ i1 r1)
    ·have r1:=rel (by rw [h];decide)
     rw [if_neg (by omega),Nat.zero_add] at r1
     simp only [aK,h]
     exact CQ i2 (FZ i1 r1)
 exact fun k hk=>key (k+1) k (by omega) hk
theorem QL {ns:List Nd} (hg:Good ns):∀ k∈iD 0 ns,k<ns.length:=by
 have key:∀ (ms:List Nd) (i:Nat),(∀ j nd,ms[j]?=some nd→nd.l<ns.length∧i+j<ns.length)→∀ k∈iD i ms,k<ns.length:=by
  intro ms
  induction ms with
  | nil=>intro i _ k hk;simp [iD] at hk
  | cons nd ms ih=>
   intro i h k hk
   rw [iD,List.mem_append] at hk
   rcases hk with hk | hk
   ·split at hk
    ·simp at hk
     obtain ⟨h1,h2⟩:=h 0 nd rfl
     subst hk
     split <;> omega
    ·simp at hk
   ·exact ih (i+1) (fun j n hj=>by
     obtain ⟨h1,h2⟩:=h (j+1) n (by simpa using hj)
     exact ⟨h1,by omega⟩) k hk
 refine key ns 0 (fun j nd hj=>?_)
 obtain ⟨h1,h2,_⟩:=lF hg.wf hj
 exact ⟨h2,by omega⟩
theorem xK {ns:List Nd} (hg:Good ns) {σ:Nat→Bool} (hs:vo σ ns) {N N':Nat} (hr:LeR ns σ N N'):∀ (u:List Nat),u≠[]→∀ k,k<ns.length→oW (σ k) ((back ns u N).testBit k) ((back ns u N').testBit k)
 | [],h,_,_=>absurd rfl h
 | [a],_,k,hk=>Ov hg hs hr k hk
 | a::b::u,_,k,hk=>Ov hg hs (fun j hj=>xK hg hs hr (b::u) (by simp) j (QL hg j hj)) k hk
theorem Om (S:Nat→Bool) {k:Nat} (h:k≤8):bY S k<2 ^ k:=by
 refine Nat.lt_pow_two_of_testBit _ fun i hi=>?_
 by_cases h8:i<8
 ·rw [qh S k h i h8,if_neg (by omega)]
 ·exact Nat.testBit_lt_two_pow (Nat.lt_of_lt_of_le (qK S k h) (by rw [show (256:Nat)=2 ^ 8 by rfl];exact Nat.pow_le_pow_right (by omega) (by omega)))
section
variable {ns:List Nd} (hg:Good ns) {σ:Nat→Bool} (hs:vo σ ns)
def vw (ns:List Nd) (σ:Nat→Bool) (b:Nat):Nat:=bY (fun k=>decide (k∈iD 0 ns)&&(b.testBit ((iD 0 ns).idxOf k)==σ k)) ns.length
def pj (ns:List Nd) (σ:Nat→Bool) (N:Nat):Nat:=bY (fun i=>N.testBit ((iD 0 ns).getD i 0)==σ ((iD 0 ns).getD i 0)) 6
theorem LK {ns:List Nd} (hg:Good ns) (σ:Nat→Bool) (b:Nat) {k:Nat} (hk:k∈iD 0 ns):(vw ns σ b).testBit k=(b.testBit ((iD 0 ns).idxOf k)==σ k):=by
 have h8:=hg.le
 have hl:=QL hg k hk
 unfold vw
 rw [qh _ _ h8 k (by omega),if_pos hl]
 simp [hk]
theorem aa9 {ns:List Nd} (hg:Good ns) (h6:(iD 0 ns).length≤6) (σ:Nat→Bool) (N:Nat) {k:Nat} (hk:k∈iD 0 ns):(vw ns σ (pj ns σ N)).testBit k=N.testBit k:=by
 have hi:=List.idxOf_lt_length_of_mem hk
 rw [LK hg σ _ hk]
 unfold pj
 rw [qh _ 6 (by omega) _ (by omega),if_pos (by omega)]
 have:(iD 0 ns).getD ((iD 0 ns).idxOf k) 0=k:=by
  rw [List.getD,List.getElem?_eq_getElem hi]
  simp
 rw [this]
 cases N.testBit k <;> cases σ k <;> rfl
def J8 (ns:List Nd) (σ:Nat→Bool) (u:List Nat):Nat→Bool:=fun b=>(back ns u (vw ns σ b)).testBit (ns.length - 1)
theorem zW {ns:List Nd} (hg:Good ns) {σ:Nat→Bool} (hs:vo σ ns) (ht:σ (ns.length - 1)=true) (h6:(iD 0 ns).length≤6) {u:List Nat} (hu:u≠[]):rQ 6 (J8 ns σ u):=by
 intro a b ha hb hsub hf
 have hp:=hg.pos
 have hr:LeR ns σ (vw ns σ a) (vw ns σ b):=fun k hk=>by
  rw [LK hg σ a hk,LK hg σ b hk]
  have:=hsub ((iD 0 ns).idxOf k)
  unfold oW
  cases σ k <;> cases h1:a.testBit ((iD 0 ns).idxOf k) <;> cases h2:b.testBit ((iD 0 ns).idxOf k) <;> simp_all
 have:=xK hg hs hr u hu (ns.length - 1) (by omega)
 rw [ht] at this
 unfold oW at this
 rw [if_pos rfl] at this
 exact this hf
theorem Ns {ns:List Nd} (hg:Good ns) {σ:Nat→Bool} (hs:vo σ ns) (h6:(iD 0 ns).length≤6) {u:List Nat} (hu:u≠[]) (N:Nat):J8 ns σ u (pj ns σ N)=(back ns u N).testBit (ns.length - 1):=by
 have hp:=hg.pos
 unfold J8
 refine aeh (s:=σ (ns.length - 1)) ?_ ?_
 ·exact xK hg hs (fun k hk=>by rw [aa9 hg h6 σ N hk];exact Et _ _) u hu _ (by omega)
 ·exact xK hg hs (fun k hk=>by rw [aa9 hg h6 σ N hk];exact Et _ _) u hu _ (by omega)
end
theorem adg {ns:List Nd} (hg:Good ns) (ht:Seg 0 ns) (h6:(iD 0 ns).length≤6) {aa:Nat→Bool} (hl:gW ns (aI ns ns.length) aa) (us:List (List Nat)) (hu:∀ u∈us,u≠[]∧∀ x∈u,x<8)
  (hd:(us.map fun u=>gv (cZ ns aa (aB ns aa) u)).Nodup):us.length≤796594176:=by
 obtain ⟨σ,hr,hs0⟩:=Mo ht true
 have hs:vo σ ns:=fun i nd hi=>by have:=hs0 i nd hi;rwa [Nat.zero_add] at this
 rw [Nat.zero_add] at hr
 have key:(us.map fun u=>tab 6 (J8 ns σ u)).Nodup:=by
  rw [List.nodup_iff_pairwise_ne,List.pairwise_map] at hd ⊢
  refine List.Pairwise.imp_of_mem ?_ hd
  intro u v hu1 hv1 hne e
  refine hne (Nu fun N hN=>?_)
  obtain ⟨a1,a2⟩:=hu u hu1
  obtain ⟨b1,b2⟩:=hu v hv1
  rw [Bool.eq_iff_iff,mh hg hl u a2,mh hg hl v b2,←Ns hg hs h6 a1,←Ns hg hs h6 b1]
  have:pj ns σ N<2 ^ 6:=Om _ (by omega)
  rw [QC e this]
 have:=xy _ m6 key (fun x hx=>by
  obtain ⟨u,hu1,rfl⟩:=List.mem_map.1 hx
  exact VW (zW hg hs hr h6 (hu u hu1).1))
 rw [VZ] at this
 simpa using this
theorem El:∀ (ms:List Nd) (i:Nat),(iD i ms).length=ms.countP fun nd=>uQ nd.op
 | [],_=>rfl
 | nd::ms,i=>by
  rw [iD,List.length_append,El ms (i+1),List.countP_cons]
  cases uQ nd.op <;> simp <;> omega
def FL (nd:Nd):Bool:=dB nd.op
def wD (nd:Nd):Bool:=bz nd.op
def Bv (nd:Nd):Bool:=uQ nd.op
def yJ (nd:Nd):Bool:=nd.op==33
def mG (p:Nd→Bool) (ms:List Nd):Nat:=ms.countP p
theorem ku (p:Nd→Bool) (ms:List Nd) (nd:Nd):mG p (ms++[nd])=mG p ms+(if p nd=true then 1 else 0):=by unfold mG;rw [List.countP_append,List.countP_singleton]
theorem Ah (p:Nd→Bool) (ms ls:List Nd):mG p (ms++ls)=mG p ms+mG p ls:=by unfold mG;rw [List.countP_append]
theorem Dt {α:Type} (p:α→Bool):∀ l:List α,(l.filter p).length+(l.filter fun x=>!p x).length=l.length
 | []=>rfl
 | x::l=>by
  have:=Dt p l
  cases h:p x <;> simp [h] <;> omega
theorem Fq {b:Nat} {ms:List Nd} (h:Seg b ms):ms.length=2*mG wD ms+1+mG FL ms∧mG Bv ms+mG yJ ms≤mG FL ms+mG wD ms:=by
 induction h using yF with
 | leaf b op ho=>
  simp only [aP,Bool.or_eq_true,beq_iff_eq] at ho
  rcases ho with (((h | h) | h) | h) | h <;> subst h <;> decide
 | one b op ms ho hs ih=>
  obtain ⟨h1,h2⟩:=ih
  rw [ku,ku,ku,ku,List.length_append,List.length_singleton]
  simp only [dB,Bool.or_eq_true,beq_iff_eq] at ho
  rcases ho with ((h | h) | h) | h <;> subst h <;> simp [FL,wD,Bv,yJ,dB,bz,uQ] <;> omega
 | two b op ms ls ho h1 h2 ih1 ih2=>
  obtain ⟨a1,a2⟩:=ih1
  obtain ⟨b1,b2⟩:=ih2
  rw [ku,ku,ku,ku,Ah,Ah,Ah,Ah,List.length_append,List.length_append,List.length_singleton]
  simp only [bz,Bool.or_eq_true,beq_iff_eq] at ho
  rcases ho with ((h | h) | h) | h <;> subst h <;> simp [FL,wD,Bv,yJ,dB,bz,uQ] <;> omega
theorem Vo {b:Nat} {ms:List Nd} (h:Seg b ms):mG wD ms=0→mG yJ ms=0→∀ i nd,ms[i]?=some nd→(i=0∧aP nd.op=true)∨(0<i∧dB nd.op=true∧nd.op≠33∧nd.l=b+i - 1∧nd.r=0):=by
 induction h using yF with
 | leaf b op ho=>
  intro _ _ i nd hi
  cases i with
  | zero=>simp at hi;subst hi;exact Or.inl ⟨rfl,ho⟩
  | succ i=>simp at hi
 | one b op ms ho hs ih=>
  intro h0 h1 i nd hi
  have hp:=sJ hs
  rw [ku] at h0 h1
  by_cases e:i<ms.length
  ·rw [List.getElem?_append_left e] at hi
   exact ih (by omega) (by omega) i nd hi
  ·rw [List.getElem?_append_right (by omega)] at hi
   have e2:i=ms.length:=by
    have:=(List.getElem?_eq_some_iff.1 hi).1
    simp at this;omega
   subst e2
   simp at hi
   subst hi
   refine Or.inr ⟨hp,ho,fun e=>?_,rfl,rfl⟩
   dsimp only at e
   rw [e] at h1
   simp [yJ] at h1
 | two b op ms ls ho h1 h2 ih1 ih2=>
  intro h0
  rw [ku] at h0
  simp [wD,ho] at h0
theorem XE:∀ (ms:List Nd),(∀ i nd,ms[i]?=some nd→(i=0∧aP nd.op=true∧nd.l=0∧nd.r=0)∨(0<i∧dB nd.op=true∧nd.l=i - 1∧nd.r=0))→0<ms.length→Seg 0 ms:=by
 intro ms
 generalize hn:ms.length=n
 induction n generalizing ms with
 | zero=>intro _ h;omega
 | succ n ih=>
  intro h _
  obtain ⟨ms',nd,rfl⟩:∃ ms' nd,ms=ms'++[nd]:=⟨ms.dropLast,ms.getLast (by intro e;rw [e] at hn;simp at hn),(List.dropLast_concat_getLast _).symm⟩
  rw [List.length_append,List.length_singleton] at hn
  have hl:ms'.length=n:=by omega
  have hlast:=h n nd (by rw [List.getElem?_append_right (by omega),hl];simp)
  by_cases e:n=0
  ·subst e
   have:ms'=[]:=List.eq_nil_of_length_eq_zero hl
   subst this
   rcases hlast with ⟨_,h1,h2,h3⟩ | ⟨h1,_⟩
   ·obtain ⟨op,l,r⟩:=nd
    dsimp only at h1 h2 h3
    subst h2
    subst h3
    exact Seg.leaf 0 op h1
   ·omega
  ·have hs:=ih ms' hl (fun i m hi=>h i m (by rw [List.getElem?_append_left (List.getElem?_eq_some_iff.1 hi).1];exact hi)) (by omega)
   rcases hlast with ⟨h1,_⟩ | ⟨_,h1,h2,h3⟩
   ·omega
   ·obtain ⟨op,l,r⟩:=nd
    dsimp only at h1 h2 h3
    subst h2
    subst h3
    have:=Seg.one 0 op ms' h1 hs
    rwa [hl,Nat.zero_add] at this
theorem Ka {ns:List Nd} (hg:Good ns) {m:Nat} (h0:0<m) (hm:m≤ns.length):Good (ns.take m):=by
 have:=hg.le
 refine ⟨by rw [List.length_take];omega,by rw [List.length_take];omega,fun i nd hi=>?_⟩
 have hl:=(List.getElem?_eq_some_iff.1 hi).1
 rw [List.length_take] at hl
 rw [List.getElem?_take_of_lt (by omega)] at hi
 exact hg.wf i nd hi
theorem Kw {ns:List Nd} (hg:Good ns) {m:Nat} (h0:0<m) (hm:m≤ns.length) (N:Nat):∀ u,dh m (tb (back ns u N)) (tb (back (ns.take m) u N))
 | []=>dh.refl _ _
 | a::u=>by
  have hl:(ns.take m).length=m:=by rw [List.length_take];omega
  have h1:=Kw hg h0 hm N u
  have hst:Step (ns.take m) a (tb (eT ns a (back ns u N))) (tb (back ns u N)):=fun k nd hk=>by
   have hkl:=(List.getElem?_eq_some_iff.1 hk).1
   rw [List.getElem?_take_of_lt (by omega)] at hk
   exact jd hg a _ k nd hk
  have:=Ow (Ka hg h0 hm) hst (N:=back (ns.take m) u N) (by rw [hl];exact h1.symm)
  rw [hl] at this
  exact this.symm
def JH (ns:List Nd) (σ:Nat→Bool):List Nat→Nat→Bool
 | [],_=>false
 | a::u,b=>J8 ns σ (a::u) b||JH ns σ u b
def EL (ns:List Nd) (σ:Nat→Bool):List Nat→Nat→Bool
 | [],_=>true
 | a::u,b=>J8 ns σ (a::u) b&&EL ns σ u b
theorem ML {ns:List Nd} (hg:Good ns) {σ:Nat→Bool} (hs:vo σ ns) (ht:σ (ns.length - 1)=true) (h6:(iD 0 ns).length≤6):∀ u,rQ 6 (JH ns σ u)
 | []=>fun a b _ _ _ h=>by simp [JH] at h
 | a::u=>fun x y hx hy hsub h=>by
  rw [JH,Bool.or_eq_true] at h ⊢
  exact h.imp (zW hg hs ht h6 (by simp) x y hx hy hsub) (ML hg hs ht h6 u x y hx hy hsub)
theorem KA {ns:List Nd} (hg:Good ns) {σ:Nat→Bool} (hs:vo σ ns) (ht:σ (ns.length - 1)=true) (h6:(iD 0 ns).length≤6):∀ u,rQ 6 (EL ns σ u)
 | []=>fun a b _ _ _ h=>rfl
 | a::u=>fun x y hx hy hsub h=>by
  rw [EL,Bool.and_eq_true] at h ⊢
  exact ⟨zW hg hs ht h6 (by simp) x y hx hy hsub h.1,KA hg hs ht h6 u x y hx hy hsub h.2⟩
theorem Oa {ns:List Nd} (hg:Good ns) {aa:Nat→Bool} (hl:gW ns (aI ns ns.length) aa) (us:List (List Nat)) (hu:∀ u∈us,∀ x∈u,x<8)
  (hd:(us.map fun u=>gv (cZ ns aa (aB ns aa) u)).Nodup) (F:List Nat→Nat→Bool) (hF:∀ u∈us,rQ 6 (F u)) (P:Nat→Nat) (hP:∀ N,P N<2 ^ 6) (C:Nat→Bool→Bool)
  (hC:∀ u∈us,∀ N,(back ns u N).testBit (ns.length - 1)=C N (F u (P N))):us.length≤796594176:=by
 have key:(us.map fun u=>tab 6 (F u)).Nodup:=by
  rw [List.nodup_iff_pairwise_ne,List.pairwise_map] at hd ⊢
  refine List.Pairwise.imp_of_mem ?_ hd
  intro u v hu1 hv1 hne e
  refine hne (Nu fun N hN=>?_)
  rw [Bool.eq_iff_iff,mh hg hl u (hu u hu1),mh hg hl v (hu v hv1),hC u hu1,hC v hv1,QC e (hP N)]
 have:=xy _ m6 key (fun x hx=>by
  obtain ⟨u,hu1,rfl⟩:=List.mem_map.1 hx
  exact VW (hF u hu1))
 rw [VZ] at this
 simpa using this
theorem adf {ns:List Nd} (hg:Good ns) (ht:Seg 0 ns) {aa:Nat→Bool} (hl:gW ns (aI ns ns.length) aa) (us:List (List Nat)) (hu:∀ u∈us,2≤u.length∧∀ x∈u,x<8)
  (hd:(us.map fun u=>gv (cZ ns aa (aB ns aa) u)).Nodup):us.length≤796594176:=by
 have h8:=hg.le
 by_cases h6:(iD 0 ns).length≤6
 ·exact adg hg ht h6 hl us (fun u h=>⟨fun e=>by have:=(hu u h).1;rw [e] at this;simp at this,(hu u h).2⟩) hd
 ·obtain ⟨c1,c2⟩:=Fq ht
  rw [El,show ns.countP (fun nd=>uQ nd.op)=mG Bv ns from rfl] at h6
  have n2:mG wD ns=0:=by omega
  have n3:mG yJ ns=0:=by omega
  have hlen:ns.length=8:=by omega
  have hch:=Vo ht n2 n3
  have wf:=hg.wf
  have WP:=Ka hg (m:=7) (by omega) (by omega)
  have l7:(ns.take 7).length=7:=by rw [List.length_take];omega
  have s7:Seg 0 (ns.take 7):=XE _ (fun i nd hi=>by
   have hil:=(List.getElem?_eq_some_iff.1 hi).1
   rw [List.getElem?_take_of_lt (by omega)] at hi
   rcases hch i nd hi with ⟨h1,h2⟩ | ⟨h1,h2,_,h3,h4⟩
   ·rcases wf i nd hi with ⟨_,a,b⟩ | ⟨a,b,_⟩ | ⟨a,b,_⟩
    ·exact Or.inl ⟨h1,h2,a,b⟩
    ·omega
    ·omega
   ·exact Or.inr ⟨h1,h2,by omega,h4⟩) (by omega)
  have h67:(iD 0 (ns.take 7)).length≤6:=by
   obtain ⟨d1,d2⟩:=Fq s7
   rw [El,show (ns.take 7).countP (fun nd=>uQ nd.op)=mG Bv (ns.take 7) from rfl]
   omega
  obtain ⟨σ,hr,hs0⟩:=Mo s7 true
  have hs:vo σ (ns.take 7):=fun i nd hi=>by have:=hs0 i nd hi;rwa [Nat.zero_add] at this
  rw [Nat.zero_add] at hr
  obtain ⟨nd,hn⟩:∃ nd,ns[7]?=some nd:=⟨ns[7],List.getElem?_eq_getElem (by omega)⟩
  have hP:∀ N,pj (ns.take 7) σ N<2 ^ 6:=fun N=>Om _ (by omega)
  have b6:∀ u N,u≠[]→(back ns u N).testBit 6=J8 (ns.take 7) σ u (pj (ns.take 7) σ N):=fun u N hne=>by
   rw [Ns WP hs h67 hne,l7]
   exact Kw hg (m:=7) (by omega) (by omega) N u 6 (by omega)
  rcases hch 7 nd hn with ⟨h1,_⟩ | ⟨_,h1,h2,h3,_⟩
  ·omega
  ·have hstep:∀ a u N,(back ns (a::u) N).testBit 7=aK nd.op a ((back ns (a::u) N).testBit 6) ((back ns (a::u) N).testBit nd.r) ((back ns u N).testBit 7) ((back ns u N).testBit 6):=fun a u N=>by
    have:=jd hg a (back ns u N) 7 nd hn
    simp only [tb] at this
    rw [show nd.l=6 by omega] at this
    exact this
   simp only [dB,Bool.or_eq_true,beq_iff_eq] at h1
   rcases h1 with ((h1 | h1) | h1) | h1
   ·exact absurd h1 h2
   ·refine Oa hg hl us (fun u h=>(hu u h).2) hd (fun u=>J8 (ns.take 7) σ u.tail) (fun u h=>?_) (pj (ns.take 7) σ) hP (fun _ b=>b) (fun u h N=>?_)
    ·obtain ⟨q1,_⟩:=hu u h
     refine zW WP hs hr h67 ?_
     cases u with
     | nil=>simp at q1
     | cons a u=>cases u with
      | nil=>simp at q1
      | cons b u=>simp
    ·obtain ⟨q1,_⟩:=hu u h
     cases u with
     | nil=>simp at q1
     | cons a u=>
      rw [hlen]
      show (back ns (a::u) N).testBit 7=_
      rw [hstep]
      simp only [aK,h1]
      simp only [List.tail_cons]
      exact b6 u N (by intro e;rw [e] at q1;simp at q1)
   ·have root:∀ u N,(back ns u N).testBit 7=(JH (ns.take 7) σ u (pj (ns.take 7) σ N)||N.testBit 7):=by
     intro u N
     induction u with
     | nil=>simp [JH,back]
     | cons a u ih=>
      rw [hstep]
      simp only [aK,h1]
      rw [JH,←b6 (a::u) N (by simp),Bool.or_assoc,←ih]
      simp
    refine Oa hg hl us (fun u h=>(hu u h).2) hd (JH (ns.take 7) σ) (fun u _=>ML WP hs hr h67 u) (pj (ns.take 7) σ) hP (fun N b=>b||N.testBit 7) (fun u h N=>?_)
    rw [hlen]
    exact root u N
   ·have root:∀ u N,(back ns u N).testBit 7=(EL (ns.take 7) σ u (pj (ns.take 7) σ N)&&N.testBit 7):=by
     intro u N
     induction u with
     | nil=>simp [EL,back]
     | cons a u ih=>
      rw [hstep]
      simp only [aK,h1]
      rw [EL,←b6 (a::u) N (by simp),Bool.and_assoc,←ih]
      simp
    refine Oa hg hl us (fun u h=>(hu u h).2) hd (EL (ns.take 7) σ) (fun u _=>KA WP hs hr h67 u) (pj (ns.take 7) σ) hP (fun N b=>b&&N.testBit 7) (fun u h N=>?_)
    rw [hlen]
    exact root u N
theorem few {ns:List Nd} (hg:Good ns) (ht:Seg 0 ns) {aa:Nat→Bool} (hl:gW ns (aI ns ns.length) aa) (us:List (List Nat)) (hu:∀ u∈us,∀ x∈u,x<8)
  (hd:(us.map fun u=>gv (cZ ns aa (aB ns aa) u)).Nodup):us.length≤796594185:=by
 have hnd:us.Nodup:=by
  rw [List.nodup_iff_pairwise_ne,List.pairwise_map] at hd
  rw [List.nodup_iff_pairwise_ne]
  exact hd.imp fun h e=>h (by rw [e])
 have h1:=adf hg ht hl (us.filter fun u=>decide (2≤u.length)) (fun u h=>by
  rw [List.mem_filter] at h
  exact ⟨by simpa using h.2,hu u h.1⟩) (List.Nodup.sublist (List.Sublist.map _ List.filter_sublist) hd)
 have h2:(us.filter fun u=>!decide (2≤u.length)).length≤9:=by
  have:=xy (us.filter fun u=>!decide (2≤u.length)) ([]::(List.range 8).map fun x=>[x]) (hnd.sublist List.filter_sublist) (fun u h=>by
   rw [List.mem_filter] at h
   obtain ⟨h3,h4⟩:=h
   cases u with
   | nil=>simp
   | cons a u=>cases u with
    | nil=>
     have:=hu [a] h3 a (by simp)
     simp [this]
    | cons b u=>simp at h4)
  simpa using this
 have h3:=Dt (fun u:List Nat=>decide (2≤u.length)) us
 omega
end Go.Proofs.YtjagijohfkffiabGreat
